import PyProof.Rows.All
import Wide.All
import OpenK.AllK
import Wide.FinOn
import HandS.ForMost
import HandS.Wide
import HandS.IsInst
import HandS.Zip
import HandS.Style
import HandS.TupAny
import HandS.Evl
import HandS.More
import PyProof.ReprRoads
import PyProof.ReprBulk
import HandS.TupLe
import PySem.Challenge.RW_swiftkin_k01_what_is_a_worth
set_option Elab.async false
set_option linter.all false
set_option maxRecDepth 100000
set_option maxHeartbeats 4000000
/-! what all the laws' texts share: no word of the program here -/
namespace Kin
open PySem PySem.Spec PyProof.Rows L2 RZ
/-- a def that may be called by its name -/
structure Cl (P : Program) (w : World) (K : PySem.W.Frag) (mg : Str → Option Value) (base : Heap) (k : Nat) (x : Str) (sp : Sp) : Prop where
  ex : ∃ (f : Addr) (fd : FuncData) (ps : List Str), FnOk P w K mg base CX0 k f fd ps sp ∧ mg x = some (.ref f) ∧ PySem.W.keepIn K (.ref f) = true ∧ Binds K fd ps []
theorem Cl.imp {P : Program} {w : World} {K : PySem.W.Frag} {mg : Str → Option Value} {base : Heap} {k : Nat} {x : Str} {sp sp' : Sp} (c : Cl P w K mg base k x sp) (h : ∀ vs H Q E, sp' vs H Q E → sp vs H Q E) : Cl P w K mg base k x sp' := by
  obtain ⟨f, fd, ps, F, r⟩ := c.ex
  exact ⟨f, fd, ps, F.imp h, r⟩
theorem Cl.mono {P : Program} {w : World} {K : PySem.W.Frag} {mg : Str → Option Value} {base : Heap} {j k : Nat} {x : Str} {sp : Sp} (c : Cl P w K mg base j x sp) (h : j ≤ k) : Cl P w K mg base k x sp := by
  obtain ⟨f, fd, ps, F, r⟩ := c.ex
  exact ⟨f, fd, ps, F.mono h, r⟩
section
variable {X : Cx} {k j : Nat} {x : Str} {sp : Sp} {p pos : Pos} {e : Expr} {es : List Expr} {t : TA}
theorem pe_cl (c : Cl X.prog X.w X.K X.mg X.base k x sp) (hr : Room j X.A) (hk : k ≤ j) (hg : Gl X x) (ha : PA X (e :: es) t)
    (hdb : (x == ("__debug__" : Str)) = false := by decide) (he : starEach (e :: es) X.env = (false, eval e X.env) :: starEach es X.env := by rfl) (hpl : (backTo pos (starEach es X.env)).any (·.1) = false := by rfl) :
    PE X (.Call (.Name x p) (e :: es) [] pos) (tCall sp [] E0 t) := by
  obtain ⟨f, fd, ps, F, hm, kp, b⟩ := c.ex
  exact pe_call F (hr.mono hk) hg hm kp b .nil pass0 ha hdb he hpl
end
/-! ### the text's defs: one word for what the end tells of a def -/
structure Def (K : PySem.W.Frag) (mg : Str → Option Value) (x : Str) (ps : List Str) (st : Stmt) : Prop where
  ex : ∃ (f : Addr) (fd : FuncData), Fun K x x st f fd ∧ mg x = some (.ref f) ∧ Binds K fd ps []
section
variable {P : Program} {w : World} {K : PySem.W.Frag} {mg : Str → Option Value} {base : Heap}
theorem Def.cl {x : Str} {st : Stmt} {N ps : List Str} {k : Nat} {sp : Sp} (F : Def K mg x ps st) (S : FnScope N ps (defScope st)) (len : ∀ vs H Q E, sp vs H Q E → vs.length = ps.length)
    (hbody : ∀ (f : Addr) (cdv : Value) (A : Around) (outer : List Env) (s : Shared) (H : Hp) (vs : List V) (Q : VK) (E : XK), Room k (A.deeper (envOfC x (defScope st) s.heap.objs.size f cdv)) → sp vs H Q E →
      ∃ t, PSs (cxOf CX0 P w K mg base N x (defScope st) f cdv A outer s H E).nox (defBody st) t ∧ t { nx := fun _ H' => Q .non H', rt := Q } (start N vs) H) : Cl P w K mg base (k + 1) x sp := by
  obtain ⟨f, fd, F, hm, b⟩ := F.ex
  exact ⟨f, fd, ps, F.ok S len fun cdv A outer s H vs Q E hr h => hbody f cdv A outer s H vs Q E hr h, hm, F.kp, b⟩
end
/-! ### what is kept: all but what stands at p -/
def Fp (p : Addr) (H H' : Hp) : Prop := ∀ b o, b ≠ p → H b = some o → H' b = some o
theorem Fp.refl (p : Addr) (H : Hp) : Fp p H H := fun _ _ _ h => h
theorem Fp.trans {p : Addr} {H H1 H2 : Hp} (a : Fp p H H1) (b : Fp p H1 H2) : Fp p H H2 := fun c o n h => b c o n (a c o n h)
theorem Fp.same {p : Addr} {H H' : Hp} (h : Same H H') : Fp p H H' := fun b o _ e => h b o e
theorem same_new {H : Hp} {p : Addr} {o : HO} (h : H p = none) : Same H (upd H p o) := fun b u q => by
  rw [upd_ne (ne_of_none q h)]
  exact q
theorem Fp.new {p : Addr} {H : Hp} {q : Addr} {o : HO} (h : H q = none) : Fp p H (upd H q o) := Fp.same (same_new h)
theorem Fp.at {p : Addr} {H : Hp} {o : HO} : Fp p H (upd H p o) := fun b u n e => by
  rw [upd_ne n]
  exact e
/-- a thing that was made since may change -/
theorem Fp.mut {p : Addr} {H H' : Hp} {q : Addr} {o : HO} (e : Fp p H H') (h : H q = none) : Fp p H (upd H' q o) := fun b u n hb => by
  rw [upd_ne (ne_of_none hb h)]
  exact e b u n hb
theorem same_mut {H H' : Hp} {q : Addr} {o : HO} (e : Same H H') (h : H q = none) : Same H (upd H' q o) := fun b u hb => by
  rw [upd_ne (ne_of_none hb h)]
  exact e b u hb
theorem Fp.free {p : Addr} {H H' : Hp} (e : Fp p H H') {b : Addr} (n : b ≠ p) (h : H' b = none) : H b = none := by
  cases q : H b with
  | none => rfl
  | some o =>
    rw [e b o n q] at h
    cases h
/-! ### the pot -/
structure PotAt (H : Hp) (p c : Addr) (ns : List Int) (a r : Int) : Prop where
  hp : H p = some (.lst [.ref c, .int a, .int r])
  hc : H c = some (.lst (ns.map V.int))
  ha : 0 ≤ a
  hr : 0 ≤ r
def Pot (H : Hp) (p c : Addr) (ns : List Int) : Prop := ∃ a r, PotAt H p c ns a r
theorem PotAt.ne {H : Hp} {p c : Addr} {ns : List Int} {a r : Int} (h : PotAt H p c ns a r) : c ≠ p := ne_of h.hc h.hp (by
  intro e
  have e2 := HO.lst.inj e
  cases ns with
  | nil => cases e2
  | cons x t => cases e2)
theorem Pot.same {H H' : Hp} {p c : Addr} {ns : List Int} (h : Pot H p c ns) (e : Same H H') : Pot H' p c ns := by
  obtain ⟨a, r, q⟩ := h
  exact ⟨a, r, e _ _ q.hp, e _ _ q.hc, q.ha, q.hr⟩
theorem PotAt.upd {H : Hp} {p c : Addr} {ns : List Int} {a r a' r' : Int} (h : PotAt H p c ns a r) (ha : 0 ≤ a') (hr : 0 ≤ r') : PotAt (upd H p (.lst [.ref c, .int a', .int r'])) p c ns a' r' :=
  ⟨upd_same, by rw [upd_ne h.ne]; exact h.hc, ha, hr⟩
theorem Pot.nep {H : Hp} {p c q : Addr} {ns : List Int} (h : Pot H p c ns) (hq : H q = none) : q ≠ p := fun e => by
  obtain ⟨a, r, z⟩ := h
  rw [e, z.hp] at hq
  cases hq
theorem Pot.nec {H : Hp} {p c q : Addr} {ns : List Int} (h : Pot H p c ns) (hq : H q = none) : q ≠ c := fun e => by
  obtain ⟨a, r, z⟩ := h
  rw [e, z.hc] at hq
  cases hq
theorem Pot.mut {H : Hp} {p c q : Addr} {ns : List Int} {o : HO} (h : Pot H p c ns) (n : q ≠ p) (m : q ≠ c) : Pot (upd H q o) p c ns := by
  obtain ⟨a, r, z⟩ := h
  exact ⟨a, r, by rw [upd_ne n.symm]; exact z.hp, by rw [upd_ne m.symm]; exact z.hc, z.ha, z.hr⟩
/-- from H to H': all but the pot is kept, the pot is a pot -/
structure Go (p c : Addr) (ns : List Int) (H H' : Hp) : Prop where
  st : Pot H p c ns
  k : Fp p H H'
  pot : Pot H' p c ns
section
variable {p c q : Addr} {ns : List Int} {H H1 H2 : Hp} {o : HO}
theorem Go.refl (h : Pot H p c ns) : Go p c ns H H := ⟨h, Fp.refl p H, h⟩
theorem Go.trans (a : Go p c ns H H1) (b : Go p c ns H1 H2) : Go p c ns H H2 := ⟨a.st, a.k.trans b.k, b.pot⟩
theorem Go.same (a : Go p c ns H H1) (e : Same H1 H2) : Go p c ns H H2 := ⟨a.st, a.k.trans (Fp.same e), a.pot.same e⟩
theorem Go.new (a : Go p c ns H H1) (h : H1 q = none) : Go p c ns H (upd H1 q o) := a.same (same_new h)
/-- a thing made since the beginning is changed -/
theorem Go.mut (a : Go p c ns H H1) (h : H q = none) : Go p c ns H (upd H1 q o) := ⟨a.st, a.k.mut h, a.pot.mut (a.st.nep h) (a.st.nec h)⟩
theorem Go.free (a : Go p c ns H H1) (h : H1 q = none) : H q = none := a.k.free (a.pot.nep h) h
theorem Go.get (a : Go p c ns H H1) (n : q ≠ p) (h : H q = some o) : H1 q = some o := a.k q o n h
end

/-! ### loops over enumerate, comprehensions over zip -/
theorem for_enum {K : PySem.W.Frag} {a : Addr} {xs : List V} {g : TG} {tb : TS} {D : Ends} {σ : L2.St} {H : Hp} (Pv : Nat → L2.St → Hp → Prop) (h0 : Pv 0 σ H) (hl : ∀ i σ H, i ≤ xs.length → Pv i σ H → SqL K H a xs)
    (hs : ∀ (i : Nat) x σ H T, xs[i]? = some x → Pv i σ H → H T = none → g (.ref T) σ (upd H T (.tup [.int (i : Nat), x])) fun σ2 H2 => tb { D with nx := Pv (i + 1), ct := Pv (i + 1), bk := D.nx } σ2 H2) (hd : ∀ σ H, Pv xs.length σ H → D.nx σ H) :
    ∃ W : Nat → Nat → L2.St → Hp → Prop, (∃ m, W 0 m σ H) ∧ ∀ i m σ H, W i m σ H →
      ((Ite K a).stop i H ∧ D.nx σ H) ∨ ((Ite K a).go i H ∧ ∃ N : L2.St → Hp → Prop, (∀ σ' H', N σ' H' → ∃ m', m' < m ∧ W (i + 1) m' σ' H') ∧ ∀ x H', (Ite K a).yld i H x H' → g x σ H' fun σ2 H2 => tb { D with nx := N, ct := N, bk := D.nx } σ2 H2) := by
  refine ⟨fun i m σ H => i ≤ xs.length ∧ m + i = xs.length ∧ Pv i σ H, ⟨xs.length, Nat.zero_le _, rfl, h0⟩, fun i m σ H hw => ?_⟩
  obtain ⟨hi, hm, hp⟩ := hw
  have hq := hl i σ H hi hp
  by_cases hlt : i < xs.length
  · refine .inr ⟨⟨xs, xs[i], hq, List.getElem?_eq_getElem hlt⟩, Pv (i + 1), fun σ' H' hp' => ⟨m - 1, by omega, by omega, by omega, hp'⟩, fun x H' hy => ?_⟩
    obtain ⟨T, y, rfl, nT, rfl, fy⟩ := hy
    exact hs i y σ H T (fy xs hq) hp nT
  · have ei : i = xs.length := by omega
    rw [ei] at hp
    exact .inl ⟨⟨xs, hq, by omega⟩, hd σ H hp⟩
/-! ### slices by plain numbers -/
theorem cut_from (xs : List V) (k : Nat) : cutV xs (some (k : Int)) none = xs.drop k := by
  unfold cutV
  rw [HT.sIx_nat, HT.sIx_none]
  by_cases h : k ≤ xs.length
  · rw [Nat.min_eq_left h, ← List.length_drop]
    exact List.take_length
  · have h2 : xs.length ≤ k := by omega
    rw [Nat.min_eq_right h2, List.drop_of_length_le h2, List.drop_of_length_le (Nat.le_refl _)]
    exact List.take_nil
theorem cut_to (xs : List V) (k : Nat) : cutV xs none (some (k : Int)) = xs.take k := by
  unfold cutV
  rw [HT.sIx_nat, HT.sIx_none, List.drop_zero, Nat.sub_zero]
  by_cases h : k ≤ xs.length
  · rw [Nat.min_eq_left h]
  · rw [Nat.min_eq_right (by omega), List.take_length, List.take_of_length_le (by omega)]
theorem cut_len (xs : List V) (lo hi : Option Int) : (cutV xs lo hi).length ≤ xs.length := by
  unfold cutV
  rw [List.length_take, List.length_drop]
  omega
theorem cut_map (f : Int → V) (ns : List Int) (lo hi : Option Int) : ∃ ms : List Int, cutV (ns.map f) lo hi = ms.map f ∧ ms.length ≤ ns.length := by
  unfold cutV
  refine ⟨_, by rw [← List.map_drop, ← List.map_take], ?_⟩
  rw [List.length_take, List.length_drop, List.length_map]
  omega

section
variable {X : Cx}
/-- a statement, a word behind it, the rest from that word -/
def tMid (t u : TS) : TS := fun D σ H => ∃ M : L2.St → Hp → Prop, t { D with nx := M } σ H ∧ ∀ σ' H', M σ' H' → u D σ' H'
theorem pss_cut' {st : Stmt} {rest : List Stmt} {t u : TS} (h1 : PS X st t) (h2 : PSs X rest u) : PSs X (st :: rest) (tMid t u) := Evl.pss_cut h1 h2
end

def nV (k : Nat) : V := .int (k : Int)
def numV : Option Nat → V
  | none => .non
  | some n => nV n
def strV : Option Str → V
  | none => .non
  | some x => .str x
/-! ### data: lists of ints, lists of texts -/
theorem dp_ints {K : PySem.W.Frag} {H : Hp} : ∀ ns : List Int, DpAll K H (ns.map V.int) (ns.map PyData.int)
  | [] => .nil
  | n :: r => .cons (.int n) (dp_ints r)
theorem dp_strs {K : PySem.W.Frag} {H : Hp} : ∀ xs : List Str, DpAll K H (xs.map V.str) (xs.map PyData.str)
  | [] => .nil
  | x :: r => .cons (.str x) (dp_strs r)
theorem lay_ints : ∀ ns : List Int, PyData.canLayAll0 (ns.map PyData.int) = true
  | [] => rfl
  | n :: r => by
    show (PyData.canLay0 (.int n) && PyData.canLayAll0 (r.map PyData.int)) = true
    rw [lay_ints r]
    rfl
theorem depth_ints : ∀ ns : List Int, PyData.depthAll (ns.map PyData.int) = 0
  | [] => rfl
  | n :: r => by
    show max (PyData.depth (.int n)) (PyData.depthAll (r.map PyData.int)) = 0
    rw [depth_ints r]
    rfl
theorem shaped_list {ds : List PyData} {n : Nat} (h1 : PyData.canLayAll0 ds = true) (h2 : PyData.depthAll ds ≤ n) (h3 : n < 64) : SeqAt.shaped (.list ds) = true := by
  unfold SeqAt.shaped
  rw [Bool.and_eq_true, decide_eq_true_eq]
  refine ⟨h1, ?_⟩
  show PyData.depthAll ds + 1 ≤ 64
  omega
theorem shaped_tuple {ds : List PyData} {n : Nat} (h1 : PyData.canLayAll0 ds = true) (h2 : PyData.depthAll ds ≤ n) (h3 : n < 64) : SeqAt.shaped (.tuple ds) = true := by
  unfold SeqAt.shaped
  rw [Bool.and_eq_true, decide_eq_true_eq]
  refine ⟨h1, ?_⟩
  show PyData.depthAll ds + 1 ≤ 64
  omega
theorem shaped_ints (ns : List Int) : SeqAt.shaped (.list (ns.map PyData.int)) = true := shaped_list (lay_ints ns) (Nat.le_of_eq (depth_ints ns)) (by decide)
theorem lay_strs : ∀ xs : List Str, (∀ x ∈ xs, PyData.strOk x = true) → PyData.canLayAll0 (xs.map PyData.str) = true
  | [], _ => rfl
  | x :: r, h => by
    show (PyData.canLay0 (.str x) && PyData.canLayAll0 (r.map PyData.str)) = true
    rw [lay_strs r fun y hy => h y (List.mem_cons_of_mem _ hy), Bool.and_true]
    exact h x List.mem_cons_self
theorem depth_strs : ∀ xs : List Str, PyData.depthAll (xs.map PyData.str) = 0
  | [] => rfl
  | n :: r => by
    show max (PyData.depth (.str n)) (PyData.depthAll (r.map PyData.str)) = 0
    rw [depth_strs r]
    rfl
theorem shaped_strs {xs : List Str} (h : ∀ x ∈ xs, PyData.strOk x = true) : SeqAt.shaped (.list (xs.map PyData.str)) = true := shaped_list (lay_strs xs h) (Nat.le_of_eq (depth_strs xs)) (by decide)
theorem eqv_ints_nil (ns : List Int) : PyData.eqv (.list (ns.map PyData.int)) (.list []) = decide (ns = []) := by
  cases ns with
  | nil => rfl
  | cons n r => rfl

/-! ### the rules that name the written part, with its name given -/
section
variable {X : Cx} {tg l e : Expr} {tl te to : TE} {t : TA} {T : String}
theorem ix_listK (K : PySem.W.Frag) (h : X.K = K := by rfl) : IxR X (rIxL K) := by subst h; exact ix_list
theorem ix_tupK (K : PySem.W.Frag) (h : X.K = K := by rfl) : IxR X (rIxT K) := by subst h; exact ix_tup
theorem sl_listK (K : PySem.W.Frag) (h : X.K = K := by rfl) : SlR X (rSlL K) := by subst h; exact sl_list
theorem sl_tupK (K : PySem.W.Frag) (h : X.K = K := by rfl) : SlR X (rSlA K) := by subst h; exact sl_tupA
theorem op_inK (K : PySem.W.Frag) (h : X.K = K := by rfl) : OpR X (compareOp .In) (rIn K false) := by subst h; exact op_in_seq
theorem op_notInK (K : PySem.W.Frag) (h : X.K = K := by rfl) : OpR X (compareOp .NotIn) (rIn K true) := by subst h; exact op_notIn_seq
theorem op_eqK (K : PySem.W.Frag) (hu : X.A.units + 64 < cLine) (h : X.K = K := by rfl) : OpR X (compareOp .Eq) (rEqD K) := by subst h; exact op_eqD hu
theorem op_neK (K : PySem.W.Frag) (hu : X.A.units + 64 < cLine) (h : X.K = K := by rfl) : OpR X (compareOp .NotEq) (rNeD K) := by subst h; exact op_neD hu
def rLenK (K : PySem.W.Frag) : List V → Hp → VK → Prop := fun xs H Q => ∃ p ys, xs = [.ref p] ∧ (SqL K H p ys ∨ SqT K H p ys) ∧ Q (.int ys.length) H
theorem call_lenK (K : PySem.W.Frag) (h : X.K = K := by rfl) : CallR X (.builtin "len") (rLenK K) := by subst h; exact call_len_seq
def rListK (K : PySem.W.Frag) : List V → Hp → VK → Prop := fun xs H Q => ∃ p ys, xs = [.ref p] ∧ (SqL K H p ys ∨ SqT K H p ys) ∧ ∀ l, H l = none → Q (.ref l) (upd H l (.lst ys))
theorem call_listK (K : PySem.W.Frag) (h : X.K = K := by rfl) : CallR X (.type "list") (rListK K) := by subst h; exact call_list_of
theorem cr_allK (K : PySem.W.Frag) (h : X.K = K := by rfl) (hc : X.calm = true := by rfl) : CallR X (.builtin "all") (rAll K) := by subst h; exact cr_all hc
theorem call_isiK' (K : PySem.W.Frag) (h : X.K = K := by rfl) : CallR X (.builtin "isinstance") (rIsi K) := by subst h; exact call_isi
theorem call_isiTK (K : PySem.W.Frag) (h : X.K = K := by rfl) : CallR X (.builtin "isinstance") (rIsiT K) := by subst h; exact call_isiT
theorem mt_indexK (K : PySem.W.Frag) (h : X.K = K := by rfl) : MtR X "list.index" (rIndex K) := by subst h; exact mt_index
theorem pi_listK (K : PySem.W.Frag) (hl : PE X l tl) (h : X.K = K := by rfl) : PI X tg l (iList K tl) := by subst h; exact pi_list hl
theorem pi_enumK {ta : TA} {p pos tpos : Pos} {elts : List Expr} {kk : Nat} (K : PySem.W.Frag) (hg : Gl X "enumerate") (hm : X.mg "enumerate" = none) (ha : PA X [e] ta) (h : X.K = K := by rfl) (hs : starEach [e] X.env = [(false, eval e X.env)] := by rfl) :
    PI X (.Tuple elts kk tpos) (.Call (.Name "enumerate" p) [e] [] pos) (iEnum K ta) := by subst h; exact pi_enum hg hm ha hs
theorem pi_zipK {e2 : Expr} {ta : TA} {p pos tpos : Pos} {elts : List Expr} {kk : Nat} (K : PySem.W.Frag) (hg : Gl X "zip") (hm : X.mg "zip" = none) (ha : PA X [e, e2] ta) (h : X.K = K := by rfl)
    (hs : starEach [e, e2] X.env = (false, eval e X.env) :: starEach [e2] X.env := by rfl) (hpl : (backTo pos (starEach [e2] X.env)).any (·.1) = false := by rfl) :
    PI X (.Tuple elts kk tpos) (.Call (.Name "zip" p) [e, e2] [] pos) (iZipA K ta) := by subst h; exact pi_zipA hg hm ha hs hpl
theorem pg_tupK {es : List Expr} {k : Nat} {t : TGs} {pos : Pos} (K : PySem.W.Frag) (n : Nat) (hc : X.calm = true) (hts : PGs X es t) (h : X.K = K := by rfl) (hn : (assignEach es X.env).length = n := by rfl) (hst : (assignEach es X.env).findIdx? (·.1) = none := by rfl) :
    PG X (.Tuple es k pos) (gTup K n t) := by subst h; exact pg_tup hc hts hn hst
def tTruK (K : PySem.W.Frag) (ta : TE) : TT := fun σ H Q => ta σ H fun x H' => ∃ k, TruV K x H' k ∧ Q k H'
theorem pt_truK {a : Expr} {ta : TE} (K : PySem.W.Frag) (ha : PE X a ta) (he : ∀ whole, isTrue a X.env whole = (do let v ← whole; standAt a.pos; holding [v] (truthy v))) (h : X.K = K := by rfl) : PT X a (tTruK K ta) := by subst h; exact pt_truth ha he
theorem pe_revK {k : Nat} {p1 p2 p3 pos : Pos} (K : PySem.W.Frag) (he : PE X e te) (h : X.K = K := by rfl) : PE X (.Subscript e (.Slice none none (some (.UnaryOp .USub (.Constant (.int 1) k p1) p2)) p3) pos) (tRevL K te) := by subst h; exact pe_revL he
def rJoinK (K : PySem.W.Frag) : V → List V → Hp → VK → Prop := fun x xs H Q => ∃ a p, ∃ ys : List Str, x = .str a ∧ xs = [.ref p] ∧ (SqL K H p (ys.map V.str) ∨ SqT K H p (ys.map V.str)) ∧
      (ys.map (·.length)).sum + ys.length * a.length ≤ 16777216 ∧ Q (.str (Txt.join a ys)) H
theorem pe_joinK {o : Expr} {apos pos : Pos} (K : PySem.W.Frag) (ho : PE X o to) (he : PE X e te) (h : X.K = K := by rfl) (hs : starEach [e] X.env = [(false, eval e X.env)] := by rfl) (hbase : attributeBase o "join" X.env (eval o X.env) = eval o X.env := by rfl) (hline : (apos.endLine == pos.line) = true := by rfl) :
    PE X (.Call (.Attribute o "join" apos) [e] [] pos) (tM1 (rJoinK K) to te) := by subst h; exact pe_join ho he hs hbase hline
end
section
variable {X : Cx} {o : Expr} {to : TE} {t : TA} {T name id : String} {r : V → List V → Hp → VK → Prop} {apos cpos : Pos} {e : Expr} {es : List Expr}
theorem pe_bm0K (K : PySem.W.Frag) (pa : PlainAttrs T) (slot : Slot T name id) (hty : typeOf (.builtin id) = pure (.type "method_descriptor")) (hm : MtR X id r) (ho : PE X o to) (h : X.K = K := by rfl)
    (hbase : attributeBase o name X.env (eval o X.env) = eval o X.env := by rfl) (hline : (apos.endLine == cpos.line) = true := by rfl) : PE X (.Call (.Attribute o name apos) [] [] cpos) (tBM0 K T r to) := by subst h; exact pe_bm0 pa slot hty hm ho hbase hline
theorem pe_bmK (K : PySem.W.Frag) (pa : PlainAttrs T) (slot : Slot T name id) (hty : typeOf (.builtin id) = pure (.type "method_descriptor")) (hm : MtR X id r) (ho : PE X o to) (ha : PA X (e :: es) t) (h : X.K = K := by rfl)
    (hbase : attributeBase o name X.env (eval o X.env) = eval o X.env := by rfl)
    (hfew : ((backTo cpos (starEach (e :: es) X.env)).all (fun x => !x.1) && (backToKw cpos (keywordEach [] X.env)).all (fun x => x.1.isSome) && decide ((e :: es).length + ([] : List Keyword).length + (if ([] : List Keyword).isEmpty then 0 else 1) < 30)) = true := by rfl)
    (hline : (apos.endLine == cpos.line) = true := by rfl) (hs : starEach (e :: es) X.env = (false, eval e X.env) :: starEach es X.env := by rfl) (hplain : (backTo cpos (starEach es X.env)).any (·.1) = false := by rfl) :
    PE X (.Call (.Attribute o name apos) (e :: es) [] cpos) (tBM K T r to t) := by subst h; exact pe_bm pa slot hty hm ho ha hbase hfew hline hs hplain
end
end Kin
/-! any of a list of lists; a text taken several times -/
namespace Kin
open PySem PySem.Spec PyProof.Rows L2 RZ
section
variable {prog : Program} {w : World} {A : Around} {R : Result → Shared → Prop} {I : Addr} {fp wr : List Addr} {n : Nat} {P : Nat → Value → Prop} {St : Nat → Heap → Prop}
/-- the loop of any, the items' truths read off the heap as it stands (all but wr is as in h0) -/
theorem any_turns (W : Walks prog w A.in1 I fp wr n P St) (h0 : Heap) (tr : Nat → Bool)
    (htr : ∀ i v (s : Shared) (Q : Bool → Shared → Prop) (E : Value → Shared → Prop), P i v → (∀ b o, b ∉ wr → h0.get? b = some o → s.heap.get? b = some o) → (∀ tk, Q (tr i) { s with toks := tk }) → wpAny (model prog w) A.in1 (truthy v) Q E s) :
    ∀ (k i : Nat) (s : Shared), k + i = n → St i s.heap → (∀ b o, b ∉ wr → h0.get? b = some o → s.heap.get? b = some o) →
      (∀ h' tk, (∀ b o, b ∉ wr → h0.get? b = some o → h'.get? b = some o) → R (.ok (.ret (.bool (((List.range n).drop i).any tr)))) { s with heap := h', toks := tk }) → codeAny (model prog w) A (.builtin "any.loop" ⟨[.ref I], []⟩) R s
  | 0, i, s, hk, hst, h0s, hR => by
    have hin : i = n := by omega
    rw [hin] at hst hR
    refine codeAny_builtin F.entry_any_loop (by
      rw [Around.under_plainId F.plain_any_loop _]
      refine wpAny_bind (W.done s _ _ hst fun h' tk hk' => wpAny_bind (wpAny_rule (wpAny_pure ?_)))
      have q := hR h' tk fun b o hb e => hk' b o hb (h0s b o hb e)
      rw [List.drop_of_length_le (Nat.le_of_eq List.length_range)] at q
      exact q)
  | k + 1, i, s, hk, hst, h0s, hR => by
    have hlt : i < n := by omega
    have hd : (List.range n).drop i = i :: (List.range n).drop (i + 1) := by
      rw [List.drop_eq_getElem_cons (by rw [List.length_range]; exact hlt), List.getElem_range]
    refine codeAny_builtin F.entry_any_loop (by
      rw [Around.under_plainId F.plain_any_loop _]
      refine wpAny_bind (W.item i s _ _ hlt hst fun v h' tk hP hst' hk' => ?_)
      have h0' : ∀ b o, b ∉ wr → h0.get? b = some o → h'.get? b = some o := fun b o hb e => hk' b o hb (h0s b o hb e)
      refine wpAny_bind (wpAny_holding (htr i v _ _ _ hP h0' fun tk2 => wpAny_bind (wpAny_letGo ?_)))
      cases hb : tr i with
      | false =>
        refine wpAny_pure ⟨plainId_quiet F.plain_any_loop _, any_turns W h0 tr htr k (i + 1) _ (by omega) hst' h0' fun h2 tk3 hk2 => ?_⟩
        have q := hR h2 tk3 hk2
        rw [hd, List.any_cons, hb, Bool.false_or] at q
        exact q
      | true =>
        refine wpAny_bind (wpAny_rule (wpAny_pure ?_))
        have q := hR h' tk2 h0'
        rw [hd, List.any_cons, hb, Bool.true_or] at q
        exact q)
end
/-- lists that stand at these places -/
abbrev Lists (K : PySem.W.Frag) (H : Hp) : List Addr → List (List V) → Prop := Paired fun a xs => SqL K H a xs
theorem Lists.get {K : PySem.W.Frag} {H : Hp} : ∀ {as : List Addr} {xss : List (List V)} {i : Nat} {a : Addr}, Lists K H as xss → as[i]? = some a → ∃ xs, xss[i]? = some xs ∧ SqL K H a xs
  | _, _, _, _, .nil, e => by cases e
  | _, _, 0, _, .cons r _, e => by cases e; exact ⟨_, rfl, r⟩
  | _, _, i + 1, _, .cons _ t, e => Lists.get (i := i) t e
def rAnyL (K : PySem.W.Frag) : List V → Hp → VK → Prop := fun vs H Q => ∃ (a : Addr) (as : List Addr) (xss : List (List V)), vs = [V.ref a] ∧ SqL K H a (as.map V.ref) ∧ Lists K H as xss ∧ Q (.bl (xss.any fun xs => !xs.isEmpty)) H
theorem any_nums {α : Type} (f : α → Bool) : ∀ (xs : List α), ((List.range xs.length).any fun i => (xs[i]?.map f).getD false) = xs.any f
  | [] => rfl
  | x :: r => by
    rw [List.length_cons, List.range_succ_eq_map, List.any_cons, List.any_map, List.any_cons, ← any_nums f r]
    rfl
theorem cr_anyL {X : Cx} (hc : X.calm = true) : CallR X (.builtin "any") (rAnyL X.K) := by
  intro pins s σ H vs us Q I r h
  obtain ⟨a, as, xss, rfl, hs, hL, q⟩ := h
  obtain ⟨its, rv, hl, _⟩ := I.list hs
  rw [Vals.ref1 r]
  have hlen : its.length = xss.length := by
    rw [← rv.length, List.length_map]
    exact Paired.length hL
  refine call_function_tree F.kind_any F.plain_any F.entry_any (F.args_any1 _) (by
    unfold Builtin.«any»
    refine wpAny_bind (m := oneArg "any" _) (wpAny_pure (wpAny_bind (iter_any hl.isList fun s2 e2 st hne => ?_)))
    subst e2
    refine wpAny_pure ⟨plainId_quiet F.plain_any_loop _, any_turns (Walks.list (A := X.A.in1) (I.ok.hd hc) _ a hne its.toArray) s.heap (fun i => (xss[i]?.map fun xs => !xs.isEmpty).getD false) ?_ _ 0 _ rfl st (fun b o _ e => Heap.get?_push_of_some _ e) ?_⟩
    · intro i v s3 Q3 E3 hv hk hq
      have hv' : its[i]? = some v := by simpa using hv
      have hi : i < its.length := (List.getElem?_eq_some_iff.mp hv').1
      have hia : i < as.length := by rw [hlen, ← Paired.length hL] at hi; exact hi
      obtain ⟨u, hu, ru⟩ := rv.get (i := i) (x := .ref as[i]) (by rw [List.getElem?_map, List.getElem?_eq_getElem hia]; rfl)
      have euv : u = v := Option.some.inj (hu.symm.trans hv')
      subst euv
      obtain ⟨xs, hx, hX⟩ := hL.get (List.getElem?_eq_getElem hia)
      have hq2 := hq
      rw [hx] at hq2
      cases ru
      obtain ⟨ys, ry, pl, hz⟩ := I.list hX
      have hzz := ry.length
      have hl3 := line63
      have nw : as[i] ∉ [s.heap.objs.size] := fun hm => by
        have e1 := List.mem_singleton.mp hm
        obtain ⟨o, eo, _⟩ := pl.isList
        exact absurd (e1 ▸ Heap.lt_size eo) (Nat.lt_irrefl _)
      have il : s3.heap.IsList as[i] ys.toArray := pl.isList.at fun o e => hk _ o nw e
      refine wpAny_truthy_list il (by simp only [List.size_toArray]; omega) ?_
      rw [isEmpty_of ry]
      exact hq2 _
    · intro h' tk hk
      rw [List.drop_zero, List.size_toArray, hlen, any_nums]
      refine ⟨.bl _, H, I.kept fun b o eo => hk b o (fun hm => ?_) eo, rfl, q⟩
      exact absurd (List.mem_singleton.mp hm ▸ Heap.lt_size eo) (Nat.lt_irrefl _))
theorem cr_anyLK {X : Cx} (K : PySem.W.Frag) (h : X.K = K := by rfl) (hc : X.calm = true := by rfl) : CallR X (.builtin "any") (rAnyL K) := by subst h; exact cr_anyL hc
/-! ### a text, so many times -/
theorem fold_rep (a : Array Nat) : ∀ (m : Nat) (acc : Array Nat), List.foldl (fun x1 x2 => x1 ++ x2) acc (List.replicate m a) = acc ++ (List.replicate m a.toList).flatten.toArray
  | 0, acc => by
    show acc = acc ++ #[]
    rw [Array.append_empty]
  | m + 1, acc => by
    rw [List.replicate_succ, List.foldl_cons, fold_rep a m, List.replicate_succ, List.flatten_cons, Array.append_assoc, ← List.append_toArray, Array.toArray_toList]
def rRepS : R2 := fun x y H Q => ∃ (z : Str) (k : Int), x = .str z ∧ y = .int k ∧ 1 ≤ k ∧ k ≤ 1000 ∧ z.length ≤ 1000 ∧ 1 ≤ z.length ∧ Q (.str ⟨(List.replicate k.toNat z.cps.toList).flatten.toArray⟩) H
theorem op_repS {X : Cx} : OpR X (binaryOp .Mult) rRepS := by
  intro pins s σ H x y v u Q I rx ry h
  obtain ⟨z, k, rfl, rfl, h1, h2, h3, h4, q⟩ := h
  obtain ⟨t, rfl⟩ := rx
  obtain ⟨t2, rfl⟩ := ry
  have c1 : ¬ k < 1 := by omega
  have hm : MulOk z k := by
    refine ⟨?_, fun _ _ => ?_, fun _ _ => ?_⟩
    · rw [decide_eq_false (by omega), decide_eq_false (by omega)]
      rfl
    · have e : (2 ^ 63 - 1 : Int) / 1000 ≤ (2 ^ 63 - 1) / k := by
        have e2 : (2 ^ 63 - 1 : Int) / k * k = (2 ^ 63 - 1) - (2 ^ 63 - 1) % k := by
          have := Int.mul_ediv_add_emod (2 ^ 63 - 1) k
          rw [Int.mul_comm] at this
          omega
        have e3 := Int.emod_lt_of_pos (2 ^ 63 - 1) (show 0 < k by omega)
        refine Int.not_lt.mp fun hlt => ?_
        have e4 : (2 ^ 63 - 1 : Int) / k * k ≤ ((2 ^ 63 - 1) / 1000 - 1) * k := Int.mul_le_mul_of_nonneg_right (by omega) (by omega)
        have e5 : ((2 ^ 63 - 1 : Int) / 1000 - 1) * k ≤ ((2 ^ 63 - 1) / 1000 - 1) * 1000 := Int.mul_le_mul_of_nonneg_left h2 (by decide)
        omega
      have e6 : (1000 : Int) < (2 ^ 63 - 1) / 1000 := by decide
      omega
    · have e : z.length * k.toNat ≤ 1000 * 1000 := Nat.mul_le_mul h3 (by omega)
      have e2 : sizeLine = 16777216 := sizeLine_eq
      exact decide_eq_false (by omega)
  refine SB.mul hm fun t3 k3 => ⟨.str _, H, I.tok _, ?_, q⟩
  have e : Txt.mul z k = ⟨(List.replicate k.toNat z.cps.toList).flatten.toArray⟩ := by
    unfold Txt.mul
    rw [if_neg c1]
    by_cases c2 : (k == 1 || z.length == 0) = true
    · rw [if_pos c2]
      have c3 : k = 1 := by
        rcases Bool.or_eq_true _ _ ▸ c2 with c | c
        · exact eq_of_beq c
        · have := eq_of_beq c
          omega
      subst c3
      show z = ⟨(z.cps.toList ++ []).toArray⟩
      rw [List.append_nil]
    · rw [if_neg c2]
      have c4 := fold_rep z.cps k.toNat #[]
      rw [Array.empty_append] at c4
      rw [c4]
  rw [e]
  exact ⟨t3, rfl⟩
end Kin
/-! the mathematics of merging rows: lines and rings -/
namespace Kin
open PySem PySem.Spec PyProof.Rows L2 RZ
abbrev Rows := List (List Str)
def behind (left : Rows) : List Str := (left.map List.tail).flatten
def freeHd (left : Rows) (row : List Str) : Option Str := match row with
  | [] => none
  | h :: _ => if h ∈ behind left then none else some h
theorem freeHd_cons (left : Rows) (h : Str) (t : List Str) : freeHd left (h :: t) = if h ∈ behind left then none else some h := rfl
/-- the heads that stand behind no other head -/
def heads (left : Rows) : List Str := left.filterMap (freeHd left)
def without (name : Str) (row : List Str) : List Str := if row.head? = some name then row.tail else row
def done (left : Rows) : Bool := !(left.any fun r => !r.isEmpty)
def total (left : Rows) : Nat := (left.map List.length).sum
/-- name by name -/
def mergeN : Nat → Rows → Option (List Str)
  | 0, left => if done left then some [] else none
  | n + 1, left => if done left then some [] else match (heads left).head? with
    | none => none
    | some h => (mergeN n (left.map (without h))).map (h :: ·)
def merged (left : Rows) : Option (List Str) := mergeN (total left) left
theorem done_total {left : Rows} (h : total left = 0) : done left = true := by
  unfold done
  rw [Bool.not_eq_true', List.any_eq_false]
  intro r hr
  have : r.length = 0 := by
    unfold total at h
    have := List.sum_eq_zero_iff_forall_eq_nat.mp h r.length (List.mem_map.mpr ⟨r, hr, rfl⟩)
    exact this
  rw [List.length_eq_zero_iff.mp this]
  decide
theorem not_done {left : Rows} (h : done left = false) : ∃ x t, (x :: t) ∈ left := by
  unfold done at h
  rw [Bool.not_eq_false', List.any_eq_true] at h
  obtain ⟨r, hr, h⟩ := h
  cases r with
  | nil => cases h
  | cons x t => exact ⟨x, t, hr⟩
theorem done_iff {left : Rows} : done left = true ↔ ∀ r ∈ left, r = [] := by
  unfold done
  rw [Bool.not_eq_true', List.any_eq_false]
  constructor
  · intro h r hr
    have := h r hr
    cases r with
    | nil => rfl
    | cons x t => exact absurd rfl this
  · intro h r hr
    rw [h r hr]
    decide
theorem mem_behind {left : Rows} {x : Str} : x ∈ behind left ↔ ∃ r ∈ left, x ∈ r.tail := by
  unfold behind
  rw [List.mem_flatten]
  constructor
  · rintro ⟨l, hl, hx⟩
    obtain ⟨r, hr, rfl⟩ := List.mem_map.mp hl
    exact ⟨r, hr, hx⟩
  · rintro ⟨r, hr, hx⟩
    exact ⟨r.tail, List.mem_map.mpr ⟨r, hr, rfl⟩, hx⟩
theorem head_mem {left : Rows} {h : Str} (e : (heads left).head? = some h) : ∃ t, (h :: t) ∈ left ∧ h ∉ behind left := by
  have hm : h ∈ heads left := by
    cases q : heads left with
    | nil => rw [q] at e; cases e
    | cons a r => rw [q] at e; cases e; exact List.mem_cons_self
  unfold heads at hm
  obtain ⟨r, hr, hf⟩ := List.mem_filterMap.mp hm
  cases r with
  | nil => cases hf
  | cons a t =>
    rw [freeHd_cons] at hf
    by_cases c : a ∈ behind left
    · rw [if_pos c] at hf; cases hf
    · rw [if_neg c] at hf
      cases hf
      exact ⟨t, hr, c⟩
theorem no_head {left : Rows} (e : (heads left).head? = none) {x : Str} {t : List Str} (h : (x :: t) ∈ left) : ∃ r ∈ left, x ∈ r.tail := by
  have en : heads left = [] := List.head?_eq_none_iff.mp e
  unfold heads at en
  rw [List.filterMap_eq_nil_iff] at en
  have := en _ h
  rw [freeHd_cons] at this
  by_cases c : x ∈ behind left
  · exact mem_behind.mp c
  · rw [if_neg c] at this
    cases this
theorem without_len (h : Str) (r : List Str) : (without h r).length ≤ r.length := by
  unfold without
  split
  · rw [List.length_tail]; omega
  · exact Nat.le_refl _
theorem total_le (h : Str) : ∀ left : Rows, total (left.map (without h)) ≤ total left
  | [] => Nat.le_refl _
  | r :: t => by
    have h1 := without_len h r
    have h2 := total_le h t
    unfold total at h2 ⊢
    rw [List.map_cons, List.map_cons, List.map_cons, List.sum_cons, List.sum_cons]
    omega
theorem total_lt {h : Str} {t : List Str} : ∀ {left : Rows}, (h :: t) ∈ left → total (left.map (without h)) < total left
  | r :: u, hm => by
    have h1 := without_len h r
    have h2 := total_le h u
    unfold total at h2 ⊢
    rw [List.map_cons, List.map_cons, List.map_cons, List.sum_cons, List.sum_cons]
    rcases List.mem_cons.mp hm with e | e
    · subst e
      have h3 : (without h (h :: t)).length = t.length := by
        unfold without
        rw [if_pos (show (h :: t).head? = some h from rfl)]
        rfl
      rw [h3, List.length_cons]
      omega
    · have h3 := total_lt e
      unfold total at h3
      omega
/-- the measure is enough -/
theorem mergeN_more : ∀ (n m : Nat) (left : Rows), total left ≤ n → total left ≤ m → mergeN n left = mergeN m left
  | 0, 0, left, _, _ => rfl
  | 0, m + 1, left, h, _ => by
    have d := done_total (Nat.le_zero.mp h)
    unfold mergeN
    rw [if_pos d, if_pos d]
  | n + 1, 0, left, _, h => by
    have d := done_total (Nat.le_zero.mp h)
    unfold mergeN
    rw [if_pos d, if_pos d]
  | n + 1, m + 1, left, h1, h2 => by
    unfold mergeN
    by_cases d : done left = true
    · rw [if_pos d, if_pos d]
    · rw [if_neg d, if_neg d]
      cases e : (heads left).head? with
      | none => rfl
      | some x =>
        obtain ⟨t, hm, _⟩ := head_mem e
        have := total_lt hm
        show (mergeN n _).map _ = (mergeN m _).map _
        rw [mergeN_more n m _ (by omega) (by omega)]
theorem merged_done {left : Rows} (d : done left = true) : merged left = some [] := by
  unfold merged
  cases total left with
  | zero => unfold mergeN; rw [if_pos d]
  | succ n => unfold mergeN; rw [if_pos d]
theorem merged_none {left : Rows} (d : done left = false) (e : (heads left).head? = none) : merged left = none := by
  unfold merged
  have d2 : ¬ done left = true := by rw [d]; decide
  cases total left with
  | zero => unfold mergeN; rw [if_neg d2]
  | succ n => unfold mergeN; rw [if_neg d2, e]
theorem merged_some {left : Rows} {h : Str} (d : done left = false) (e : (heads left).head? = some h) : merged left = (merged (left.map (without h))).map (h :: ·) := by
  obtain ⟨t, hm, _⟩ := head_mem e
  have hlt := total_lt hm
  have d2 : ¬ done left = true := by rw [d]; decide
  unfold merged
  cases q : total left with
  | zero => omega
  | succ n =>
    rw [show mergeN (n + 1) left = (mergeN n (left.map (without h))).map (h :: ·) by
      conv => lhs; unfold mergeN
      rw [if_neg d2, e]]
    rw [mergeN_more n (total (left.map (without h))) _ (by omega) (Nat.le_refl _)]
/-! ### where a name stands behind a head -/
def against (left : Rows) (name : Str) : Option Nat := left.findIdx? fun r => decide (name ∈ r.tail)
theorem against_none {left : Rows} {x : Str} : against left x = none ↔ x ∉ behind left := by
  unfold against
  rw [List.findIdx?_eq_none_iff, mem_behind]
  constructor
  · rintro h ⟨r, hr, hx⟩
    have := of_decide_eq_false (h r hr)
    exact this hx
  · intro h r hr
    exact decide_eq_false fun hx => h ⟨r, hr, hx⟩
theorem against_some {left : Rows} {x : Str} {n : Nat} (h : against left x = some n) : ∃ r, left[n]? = some r ∧ x ∈ r.tail := by
  unfold against at h
  rw [List.findIdx?_eq_some_iff_getElem] at h
  obtain ⟨hn, hp, _⟩ := h
  exact ⟨left[n], List.getElem?_eq_getElem hn, of_decide_eq_true hp⟩
/-- a name, another one, the number of a row -/
structure Dem where
  one : Str
  other : Str
  num : Nat
/-- in this row (of distinct names) one stands ahead of other -/
def Ahead (row : List Str) (x y : Str) : Prop := ∃ a b, row = a ++ x :: b ∧ y ∈ b
def DemIn (rows : Rows) (d : Dem) : Prop := ∃ row, rows[d.num]? = some row ∧ Ahead row d.one d.other
/-- each one's other is the next one's one, the last one's the first one's -/
def Chain (ds : List Dem) : Prop := ∀ i, i < ds.length → (ds[i]?).map Dem.other = (ds[(i + 1) % ds.length]?).map Dem.one
def IsRing (rows : Rows) (ds : List Dem) : Prop := ds ≠ [] ∧ (∀ d ∈ ds, DemIn rows d) ∧ Chain ds
/-- left is what is left of rows: each row without some names from its beginning -/
def LeftOf (rows left : Rows) : Prop := left.length = rows.length ∧ ∀ (n : Nat) r, left[n]? = some r → ∃ row, rows[n]? = some row ∧ ∃ a : List Str, row = a ++ r
theorem LeftOf.refl (rows : Rows) : LeftOf rows rows := ⟨rfl, fun n r h => ⟨r, h, [], rfl⟩⟩
theorem LeftOf.step {rows left : Rows} (h : LeftOf rows left) (x : Str) : LeftOf rows (left.map (without x)) := by
  refine ⟨by rw [List.length_map]; exact h.1, fun n r hr => ?_⟩
  rw [List.getElem?_map] at hr
  cases e : left[n]? with
  | none => rw [e] at hr; cases hr
  | some l =>
    rw [e] at hr
    obtain ⟨row, h1, a, h2⟩ := h.2 n l e
    have er : without x l = r := Option.some.inj hr
    unfold without at er
    split at er
    · cases l with
      | nil => exact ⟨row, h1, a, by rw [← er]; exact h2⟩
      | cons y t => exact ⟨row, h1, a ++ [y], by rw [← er, h2, List.append_assoc]; rfl⟩
    · exact ⟨row, h1, a, by rw [← er]; exact h2⟩
theorem LeftOf.dem {rows left : Rows} (h : LeftOf rows left) {d : Dem} {t : List Str} (hn : left[d.num]? = some (d.one :: t)) (hy : d.other ∈ t) : DemIn rows d := by
  obtain ⟨row, h1, a, h2⟩ := h.2 _ _ hn
  exact ⟨row, h1, a, t, h2, hy⟩
/-! ### the ring by going from each head to the one ahead of it -/
/-- what the ring's loop has met: the names, the demands that lead from each to the next -/
structure Met (left : Rows) (met : List Str) (ds : List Dem) (name : Str) : Prop where
  len : ds.length = met.length
  nd : met.Nodup
  hd : ∃ t, (name :: t) ∈ left
  mt : ∀ x ∈ met, ∃ t, (x :: t) ∈ left
  fst : met = [] ∨ True
  dem : ∀ (i : Nat) d, ds[i]? = some d → (∃ t, left[d.num]? = some (d.one :: t) ∧ d.other ∈ t) ∧ met[i]? = some d.other ∧ (met ++ [name])[i + 1]? = some d.one
theorem Met.start {left : Rows} {name : Str} {t : List Str} (h : (name :: t) ∈ left) : Met left [] [] name :=
  ⟨rfl, List.nodup_nil, ⟨t, h⟩, (fun x hx => nomatch hx), .inl rfl, fun i d h => nomatch h⟩
theorem Met.step {left : Rows} {met : List Str} {ds : List Dem} {name one : Str} {n : Nat} {t : List Str} (m : Met left met ds name) (h0 : name ∉ met) (hn : left[n]? = some (one :: t)) (ht : name ∈ t) :
    Met left (met ++ [name]) (ds ++ [⟨one, name, n⟩]) one := by
  refine ⟨by rw [List.length_append, List.length_append, m.len]; rfl, ?_, ⟨t, List.mem_of_getElem? hn⟩, fun x hx => ?_, .inr trivial, fun i d hd => ?_⟩
  · rw [List.nodup_append]
    refine ⟨m.nd, List.nodup_cons.mpr ⟨List.not_mem_nil, List.nodup_nil⟩, fun a ha b hb e => ?_⟩
    rw [List.mem_singleton.mp hb] at e
    exact h0 (e ▸ ha)
  · rcases List.mem_append.mp hx with h | h
    · exact m.mt x h
    · rw [List.mem_singleton.mp h]
      exact m.hd
  · by_cases hi : i < ds.length
    · rw [List.getElem?_append_left hi] at hd
      obtain ⟨h1, h2, h3⟩ := m.dem i d hd
      refine ⟨h1, by rw [List.getElem?_append_left (by rw [← m.len]; exact hi)]; exact h2, ?_⟩
      rw [List.getElem?_append_left (by rw [List.length_append, ← m.len]; show i + 1 < ds.length + 1; omega)]
      exact h3
    · rw [List.getElem?_append_right (by omega)] at hd
      have hi2 : i - ds.length = 0 := by
        have := (List.getElem?_eq_some_iff.mp hd).1
        have e : ([⟨one, name, n⟩] : List Dem).length = 1 := rfl
        omega
      rw [hi2] at hd
      cases hd
      have ei : i = met.length := by rw [← m.len]; omega
      subst ei
      refine ⟨⟨t, hn, ht⟩, by rw [List.getElem?_concat_length], ?_⟩
      rw [List.getElem?_append_right (by rw [List.length_append]; exact Nat.le_refl _), List.length_append]
      show [one][met.length + 1 - (met.length + 1)]? = some one
      rw [Nat.sub_self]
      rfl
/-- how many rows' heads aren't met -/
def unmet (left : Rows) (met : List Str) : Nat := (left.filter fun r => match r with | [] => false | h :: _ => decide (h ∉ met)).length
theorem unmet_le (left : Rows) (met : List Str) : unmet left met ≤ left.length := List.length_filter_le _ _
theorem filter_lt {α : Type} {p q : α → Bool} {x : α} : ∀ {l : List α}, (∀ y ∈ l, q y = true → p y = true) → x ∈ l → p x = true → q x = false → (l.filter q).length < (l.filter p).length
  | a :: r, h, hx, hp, hq => by
    have hle : ∀ {m : List α}, (∀ y ∈ m, q y = true → p y = true) → (m.filter q).length ≤ (m.filter p).length := fun {m} hm => by
      induction m with
      | nil => exact Nat.le_refl _
      | cons b t ih =>
        have i2 := ih fun y hy => hm y (List.mem_cons_of_mem _ hy)
        rw [List.filter_cons, List.filter_cons]
        by_cases c : q b = true
        · rw [if_pos c, if_pos (hm b List.mem_cons_self c), List.length_cons, List.length_cons]
          omega
        · rw [if_neg c]
          split
          · rw [List.length_cons]; omega
          · exact i2
    rw [List.filter_cons, List.filter_cons]
    rcases List.mem_cons.mp hx with e | e
    · subst e
      rw [if_pos hp, if_neg (by rw [hq]; decide), List.length_cons]
      exact Nat.lt_succ_of_le (hle fun y hy => h y (List.mem_cons_of_mem _ hy))
    · have ih := filter_lt (fun y hy => h y (List.mem_cons_of_mem _ hy)) e hp hq
      by_cases c : q a = true
      · rw [if_pos c, if_pos (h a List.mem_cons_self c), List.length_cons, List.length_cons]
        omega
      · rw [if_neg c]
        split
        · rw [List.length_cons]; omega
        · exact ih
theorem unmet_lt {left : Rows} {met : List Str} {x : Str} {t : List Str} (h : (x :: t) ∈ left) (hx : x ∉ met) : unmet left (met ++ [x]) < unmet left met := by
  unfold unmet
  refine filter_lt (x := x :: t) (fun y _ hy => ?_) h (decide_eq_true hx) (decide_eq_false (fun hn => hn (List.mem_append.mpr (.inr List.mem_cons_self))))
  cases y with
  | nil => cases hy
  | cons a r =>
    have := of_decide_eq_true hy
    exact decide_eq_true fun hm => this (List.mem_append.mpr (.inl hm))
/-- the ring: from where the name was met on, turned about -/
theorem Met.ring {rows left : Rows} {met : List Str} {ds : List Dem} {name : Str} {j : Nat} (m : Met left met ds name) (L : LeftOf rows left) (hj : met[j]? = some name) : IsRing rows (ds.drop j).reverse := by
  have hjl := (List.getElem?_eq_some_iff.mp hj).1
  have hlen : (ds.drop j).length = met.length - j := by rw [List.length_drop, m.len]
  refine ⟨fun e => ?_, fun d hd => ?_, fun i hi => ?_⟩
  · have := congrArg List.length e
    rw [List.length_reverse, hlen] at this
    have e0 : ([] : List Dem).length = 0 := rfl
    omega
  · have hd2 := List.mem_of_mem_drop (List.mem_reverse.mp hd)
    obtain ⟨i, hi, e⟩ := List.getElem_of_mem hd2
    obtain ⟨⟨t, h1, h2⟩, _⟩ := m.dem i d (by rw [List.getElem?_eq_getElem hi, e])
    exact L.dem h1 h2
  · rw [List.length_reverse, hlen] at hi ⊢
    generalize hn : met.length - j = n at hi hlen ⊢
    have at_ : ∀ k, k < n → ∃ d, (ds.drop j).reverse[k]? = some d ∧ met[j + (n - 1 - k)]? = some d.other ∧ (met ++ [name])[j + (n - k)]? = some d.one := fun k hk => by
      have hlt : j + (n - 1 - k) < ds.length := by rw [m.len]; omega
      obtain ⟨_, h2, h3⟩ := m.dem (j + (n - 1 - k)) ds[j + (n - 1 - k)] (List.getElem?_eq_getElem hlt)
      refine ⟨ds[j + (n - 1 - k)], ?_, h2, ?_⟩
      · rw [List.getElem?_reverse (by rw [hlen]; exact hk), hlen, List.getElem?_drop, List.getElem?_eq_getElem hlt]
      · rw [show j + (n - k) = j + (n - 1 - k) + 1 by omega]
        exact h3
    obtain ⟨d, hd, h1, h2⟩ := at_ i hi
    rw [hd]
    by_cases hl : i + 1 < n
    · rw [Nat.mod_eq_of_lt hl]
      obtain ⟨e, he, h3, h4⟩ := at_ (i + 1) hl
      rw [he]
      show some d.other = some e.one
      rw [← h1, ← h4, show n - (i + 1) = n - 1 - i by omega, List.getElem?_append_left (by omega)]
    · have ei : i + 1 = n := by omega
      rw [ei, Nat.mod_self]
      obtain ⟨e, he, h3, h4⟩ := at_ 0 (by omega)
      rw [he]
      show some d.other = some e.one
      have e1 : j + (n - 0) = met.length := by omega
      rw [e1, List.getElem?_concat_length] at h4
      have e2 : j + (n - 1 - i) = j := by omega
      rw [e2, hj] at h1
      rw [← h1, ← h4]
end Kin
/-! the mathematics of the drawn names -/
namespace Kin
open PySem PySem.Spec PyProof.Rows L2 RZ
def mk (l : List Nat) : Str := ⟨l.toArray⟩
theorem mk_tl (l : List Nat) : (mk l).cps.toList = l := rfl
theorem mk_len (l : List Nat) : (mk l).length = l.length := List.size_toArray
theorem mk_inj {a b : List Nat} (h : mk a = mk b) : a = b := by
  have e := congrArg (fun z : Str => z.cps.toList) h
  exact e
theorem mk_app (a b : List Nat) : mk a ++ mk b = mk (a ++ b) := TL.ext_tl (by rw [TL.tl_append]; rfl)
theorem mk_to (l : List Nat) (k : Nat) : cutS (mk l) none (some (k : Int)) = mk (l.take k) := by
  unfold cutS
  rw [HT.sIx_nat, HT.sIx_none, mk_tl, mk_len, List.drop_zero, Nat.sub_zero]
  by_cases h : k ≤ l.length
  · rw [Nat.min_eq_left h]; rfl
  · rw [Nat.min_eq_right (by omega), List.take_length, List.take_of_length_le (by omega)]; rfl
theorem mk_from (l : List Nat) (k : Nat) : cutS (mk l) (some (k : Int)) none = mk (l.drop k) := by
  unfold cutS
  rw [HT.sIx_nat, HT.sIx_none, mk_tl, mk_len]
  by_cases h : k ≤ l.length
  · rw [Nat.min_eq_left h, ← List.length_drop, List.take_length]; rfl
  · rw [Nat.min_eq_right (by omega), List.drop_of_length_le (by omega), List.drop_of_length_le (by omega), List.take_nil]; rfl
theorem mk_join : ∀ cs : List Nat, Txt.join (mk []) (cs.map fun c => mk [c]) = mk cs := by
  have go : ∀ cs : List Nat, TL.joinL [] (cs.map fun c => [c]) = cs := fun cs => by
    induction cs with
    | nil => rfl
    | cons a r ih =>
      cases r with
      | nil => rfl
      | cons b t =>
        show [a] ++ ([] ++ TL.joinL [] ((b :: t).map fun c => [c])) = a :: b :: t
        rw [ih]
        rfl
  intro cs
  rw [TL.join_eq]
  refine TL.ext_tl ?_
  rw [TL.tl_join, List.map_map]
  exact go cs
/-- a letter, by its number -/
def letter (i : Nat) : Nat := 97 + i % 26
def small : Str := mk ((List.range 26).map letter)
theorem small_eq : (Str.ofString "abcdefghijklmnopqrstuvwxyz") = small := by decide +kernel
theorem at_gen {α : Type} {xs : List α} {z : Int} {j : Nat} {v : α} (e : z = (j : Int)) (h : xs[j]? = some v) : atI xs z = some v := by
  rw [e]
  exact atI_nat h
theorem small_at {i : Int} (h0 : 0 ≤ i) (h1 : i < 26) : atI small.cps.toList i = some (letter i.toNat) := by
  refine at_gen (by omega : i = (i.toNat : Int)) ?_
  have h2 : i.toNat < 26 := by omega
  show ((List.range 26).map letter)[i.toNat]? = _
  rw [List.getElem?_map, List.getElem?_range h2]
  rfl
theorem letter_inj {a b t : Nat} (h : letter (t + 5 * a) = letter (t + 5 * b)) (ha : a < 26) (hb : b < 26) : a = b := by
  unfold letter at h
  omega
theorem letter_rng (i : Nat) : 97 ≤ letter i ∧ letter i ≤ 122 := by
  unfold letter
  omega
def IsName (x : Str) : Prop := ∃ cs : List Nat, x = mk cs ∧ 1 ≤ cs.length ∧ cs.length ≤ 8 ∧ ∀ c ∈ cs, 97 ≤ c ∧ c ≤ 122
theorem IsName.ok {x : Str} (h : IsName x) : PyData.strOk x = true := by
  obtain ⟨cs, rfl, _, _, h⟩ := h
  unfold PyData.strOk
  rw [Array.all_eq_true]
  intro i hi
  have := h (mk cs).cps[i] (by
    show (mk cs).cps[i] ∈ (mk cs).cps.toList
    exact Array.getElem_mem_toList hi)
  exact decide_eq_true (by omega)
def partL (rest : List Nat) (size spot k : Nat) : List Nat := rest.take ((size + k * (spot % 2)) % 8)
def spotL (spot n : Nat) : Nat := if spot = 0 then 0 else if spot = 1 then n else n / 2
def nameL (rest : List Nat) (spot turn size k : Nat) : List Nat := (partL rest size spot k).take (spotL spot (partL rest size spot k).length) ++ letter (turn + 5 * k) :: (partL rest size spot k).drop (spotL spot (partL rest size spot k).length)
theorem part_len (rest : List Nat) (size spot k : Nat) : (partL rest size spot k).length ≤ 7 := by
  unfold partL
  rw [List.length_take]
  omega
theorem spot_le (spot n : Nat) : spotL spot n ≤ n := by
  unfold spotL
  split
  · omega
  · split <;> omega
theorem name_ok {rest : List Nat} (hr : ∀ c ∈ rest, 97 ≤ c ∧ c ≤ 122) (spot turn size k : Nat) : IsName (mk (nameL rest spot turn size k)) := by
  have h1 := part_len rest size spot k
  have h2 := spot_le spot (partL rest size spot k).length
  have hp : ∀ c ∈ partL rest size spot k, 97 ≤ c ∧ c ≤ 122 := fun c hc => hr c (List.mem_of_mem_take hc)
  refine ⟨_, rfl, ?_, ?_, fun c hc => ?_⟩
  · unfold nameL
    rw [List.length_append, List.length_cons]
    omega
  · unfold nameL
    rw [List.length_append, List.length_cons, List.length_take, List.length_drop]
    omega
  · unfold nameL at hc
    rcases List.mem_append.mp hc with h | h
    · exact hp c (List.mem_of_mem_take h)
    · rcases List.mem_cons.mp h with h | h
      · rw [h]
        exact letter_rng _
      · exact hp c (List.mem_of_mem_drop h)
theorem name_inj {rest : List Nat} {spot turn size a b : Nat} (hs : spot < 3) (ha : a < 26) (hb : b < 26) (h : nameL rest spot turn size a = nameL rest spot turn size b) : a = b := by
  by_cases h1 : spot = 1
  · subst h1
    unfold nameL spotL at h
    rw [if_neg (by decide), if_pos rfl, if_neg (by decide), if_pos rfl, List.take_length, List.take_length, List.drop_length, List.drop_length] at h
    have e := congrArg List.getLast? h
    rw [List.getLast?_concat, List.getLast?_concat] at e
    exact letter_inj (Option.some.inj e) ha hb
  · have e2 : spot % 2 = 0 := by omega
    have ep : ∀ k, partL rest size spot k = partL rest size spot 0 := fun k => by
      unfold partL
      rw [e2, Nat.mul_zero, Nat.mul_zero]
    unfold nameL at h
    rw [ep a, ep b] at h
    have e := List.append_cancel_left h
    exact letter_inj (List.cons.inj e).1 ha hb
theorem nodup_map {α : Type} {f : Nat → α} {n : Nat} (h : ∀ a b, a < n → b < n → f a = f b → a = b) : ((List.range n).map f).Nodup := by
  unfold List.Nodup
  rw [List.pairwise_map]
  refine List.Pairwise.imp_of_mem (fun {a b} ha hb hlt => ?_) List.pairwise_lt_range
  intro e
  have := h a b (List.mem_range.mp ha) (List.mem_range.mp hb) e
  omega
def namesL (rest : List Nat) (spot turn size n : Nat) : List Str := (List.range n).map fun k => mk (nameL rest spot turn size k)
theorem names_nodup {rest : List Nat} {spot turn size n : Nat} (hs : spot < 3) (hn : n ≤ 26) : (namesL rest spot turn size n).Nodup :=
  nodup_map fun a b ha hb h => name_inj hs (by omega) (by omega) (mk_inj h)
/-- the third way: letters taken several times -/
def repL (turn k : Nat) : List Nat := List.replicate (1 + k % 8) (letter (turn + k / 8))
theorem rep_ok (turn k : Nat) : IsName (mk (repL turn k)) := by
  refine ⟨_, rfl, ?_, ?_, fun c hc => ?_⟩
  · unfold repL
    rw [List.length_replicate]
    omega
  · unfold repL
    rw [List.length_replicate]
    omega
  · unfold repL at hc
    rw [(List.mem_replicate.mp hc).2]
    exact letter_rng _
theorem rep_inj {turn a b : Nat} (ha : a < 200) (hb : b < 200) (h : repL turn a = repL turn b) : a = b := by
  have e1 := congrArg List.length h
  unfold repL at e1 h
  rw [List.length_replicate, List.length_replicate] at e1
  have e2 := congrArg List.head? h
  rw [List.head?_replicate, List.head?_replicate, if_neg (by omega), if_neg (by omega)] at e2
  have e3 := Option.some.inj e2
  unfold letter at e3
  omega
end Kin
namespace Kin
open PySem PySem.Spec PyProof.Rows L2 RZ
/-! ### what kind a value is -/
def tyN : PyData → String
  | .none => "NoneType"
  | .bool _ => "bool"
  | .int _ => "int"
  | .str _ => "str"
  | .list _ => "list"
  | .tuple _ => "tuple"
  | .dict _ => "dict"
theorem sq_ty {K : PySem.W.Frag} {H : Hp} {a : Addr} {xs : List V} (h : SqL K H a xs) : TyX K H (.ref a) (.type "list") := by
  rcases h with (h | ⟨o, h⟩) | ⟨o, its, n, h1, h2, _⟩
  · exact .base (.lst h)
  · exact .base (.frz h)
  · exact .kList h1 h2
theorem st_ty {K : PySem.W.Frag} {H : Hp} {a : Addr} {xs : List V} (h : SqT K H a xs) : TyX K H (.ref a) (.type "tuple") := by
  rcases h with (h | ⟨o, h⟩) | ⟨o, its, n, h1, h2, _⟩
  · exact .base (.tup h)
  · exact .fTuple h
  · exact .kTuple h1 h2
theorem dp_ty {K : PySem.W.Frag} {H : Hp} {x : V} {d : PyData} (h : Dp K H x d) : TyX K H x (.type (tyN d)) := by
  cases h with
  | non => exact .base .non
  | bl b => exact .base (.bl b)
  | int i => exact .base (.int i)
  | str x => exact .base (.str x)
  | lst h _ => exact sq_ty h
  | tup h _ => exact st_ty h
theorem isi {K : PySem.W.Frag} {H : Hp} {x : V} {d : PyData} {T : String} {b : Bool} {Q : VK} (h : Dp K H x d) (hb : kitB (tyN d) T = some b) (q : Q (.bl b) H) : rIsi K [x, .ty T] H Q :=
  ⟨x, .ty T, .type (tyN d), .type T, b, rfl, .ty T, dp_ty h, kit_ty hb, q⟩
theorem yes {c A B : Prop} [Decidable c] (hc : c) (h : A) : if c then A else B := by
  rw [if_pos hc]
  exact h
theorem no {c A B : Prop} [Decidable c] (hc : ¬ c) (h : B) : if c then A else B := by
  rw [if_neg hc]
  exact h
/-! ### data that stays -/
mutual
theorem dp_same {K : PySem.W.Frag} {H H' : Hp} (e : Same H H') : ∀ (d : PyData) (x : V), Dp K H x d → Dp K H' x d
  | _, _, .non => .non
  | _, _, .bl b => .bl b
  | _, _, .int i => .int i
  | _, _, .str x => .str x
  | .list ds, _, .lst h a => .lst (e.seq h) (dpAll_same e ds _ a)
  | .tuple ds, _, .tup h a => .tup (by
      rcases h with (h | ⟨o, h⟩) | h
      · exact .inl (.inl (e _ _ h))
      · exact .inl (.inr ⟨o, e _ _ h⟩)
      · exact .inr h) (dpAll_same e ds _ a)
theorem dpAll_same {K : PySem.W.Frag} {H H' : Hp} (e : Same H H') : ∀ (ds : List PyData) (xs : List V), DpAll K H xs ds → DpAll K H' xs ds
  | _, _, .nil => .nil
  | d :: ds, x :: xs, .cons h t => .cons (dp_same e d x h) (dpAll_same e ds xs t)
end
theorem st_same {K : PySem.W.Frag} {H H' : Hp} {a : Addr} {xs : List V} (e : Same H H') (h : SqT K H a xs) : SqT K H' a xs := by
  rcases h with (h | ⟨o, h⟩) | h
  · exact .inl (.inl (e _ _ h))
  · exact .inl (.inr ⟨o, e _ _ h⟩)
  · exact .inr h
theorem dpAll_len {K : PySem.W.Frag} {H : Hp} : ∀ {xs : List V} {ds : List PyData}, DpAll K H xs ds → xs.length = ds.length
  | _, _, .nil => rfl
  | _, _, .cons _ t => congrArg (· + 1) (dpAll_len t)
theorem dpAll_get {K : PySem.W.Frag} {H : Hp} : ∀ {xs : List V} {ds : List PyData} {i : Nat} {x : V}, DpAll K H xs ds → xs[i]? = some x → ∃ d, ds[i]? = some d ∧ Dp K H x d
  | _, _, _, _, .nil, e => by cases e
  | _, _, 0, _, .cons r _, e => by cases e; exact ⟨_, rfl, r⟩
  | _, _, i + 1, _, .cons _ t, e => dpAll_get (i := i) t e
theorem depth_get : ∀ {ds : List PyData} {i : Nat} {d : PyData}, ds[i]? = some d → d.depth ≤ PyData.depthAll ds
  | [], _, _, e => by cases e
  | a :: r, 0, d, e => by
    cases e
    exact Nat.le_max_left _ _
  | a :: r, i + 1, d, e => Nat.le_trans (depth_get (ds := r) (i := i) e) (Nat.le_max_right _ _)
mutual
/-- the most things in one list or tuple -/
def wide : PyData → Nat
  | .list xs => max xs.length (wideAll xs)
  | .tuple xs => max xs.length (wideAll xs)
  | _ => 0
def wideAll : List PyData → Nat
  | [] => 0
  | x :: xs => max (wide x) (wideAll xs)
end
theorem wide_get : ∀ {ds : List PyData} {i : Nat} {d : PyData}, ds[i]? = some d → wide d ≤ wideAll ds
  | [], _, _, e => by cases e
  | a :: r, 0, d, e => by
    cases e
    show wide a ≤ max (wide a) (wideAll r)
    exact Nat.le_max_left _ _
  | a :: r, i + 1, d, e => by
    show wide d ≤ max (wide a) (wideAll r)
    exact Nat.le_trans (wide_get (ds := r) (i := i) e) (Nat.le_max_right _ _)
/-! ### a comprehension over zip -/
theorem lc_zipL {K : PySem.W.Frag} {a b : Addr} {xs ys : List V} {g : TG} {tt : TT} {te : TE} {vs : List Nat} {σ : L2.St} {H1 : Hp} {D : Addr} {Qd : Hp → Prop} (hn : xs.length = ys.length) (Pv : Nat → Hp → Prop) (h0 : Pv 0 (upd H1 D (.lst [])))
    (hl : ∀ i H, i ≤ xs.length → Pv i H → SqL K H a xs ∧ SqL K H b ys)
    (hs : ∀ i x y H T, xs[i]? = some x → ys[i]? = some y → Pv i H → H T = none → g (.ref T) (wipe σ vs) (upd H T (.tup [x, y])) fun σ2 H2 => wipe σ2 vs = wipe σ vs ∧ tt σ2 H2 fun b H3 =>
      if b = true then te σ2 H3 fun y H4 => ∃ acc, H4 D = some (.lst acc) ∧ acc.length < sizeLine ∧ Pv (i + 1) (upd H4 D (.lst (acc ++ [y]))) else Pv (i + 1) H3) (hd : ∀ H, Pv xs.length H → Qd H) :
    ∃ W : Nat → Nat → Hp → Prop, (∃ m, W 0 m (upd H1 D (.lst []))) ∧ ∀ i m H, W i m H →
      ((Itz K a b).stop i H ∧ Qd H) ∨ ((Itz K a b).go i H ∧ ∃ Nx : Hp → Prop, (∀ H', Nx H' → ∃ m', m' < m ∧ W (i + 1) m' H') ∧ ∀ x H', (Itz K a b).yld i H x H' → g x (wipe σ vs) H' fun σ2 H2 => wipe σ2 vs = wipe σ vs ∧ tt σ2 H2 fun b H3 =>
        if b = true then te σ2 H3 fun y H4 => ∃ acc, H4 D = some (.lst acc) ∧ acc.length < sizeLine ∧ Nx (upd H4 D (.lst (acc ++ [y]))) else Nx H3) := by
  refine ⟨fun i m H => i ≤ xs.length ∧ m + i = xs.length ∧ Pv i H, ⟨xs.length, Nat.zero_le _, rfl, h0⟩, fun i m H hw => ?_⟩
  obtain ⟨hi, hm, hp⟩ := hw
  obtain ⟨q1, q2⟩ := hl i H hi hp
  by_cases hlt : i < xs.length
  · have hlt2 : i < ys.length := by omega
    refine .inr ⟨⟨xs, ys, xs[i], ys[i], q1, q2, List.getElem?_eq_getElem hlt, List.getElem?_eq_getElem hlt2⟩, Pv (i + 1), fun H' hp' => ⟨m - 1, by omega, by omega, by omega, hp'⟩, fun v H' hy => ?_⟩
    obtain ⟨T, x, y, rfl, nT, rfl, fx, fy⟩ := hy
    exact hs i x y H T (fx xs q1) (fy ys q2) hp nT
  · have ei : i = xs.length := by omega
    rw [ei] at hp
    exact .inl ⟨⟨xs, ys, q1, q2, .inl (by omega)⟩, hd H hp⟩
theorem lc_zipT {K : PySem.W.Frag} {a b : Addr} {xs ys : List V} {g : TG} {tt : TT} {te : TE} {vs : List Nat} {σ : L2.St} {H1 : Hp} {D : Addr} {Qd : Hp → Prop} (hn : xs.length = ys.length) (Pv : Nat → Hp → Prop) (h0 : Pv 0 (upd H1 D (.lst [])))
    (hl : ∀ i H, i ≤ xs.length → Pv i H → SqT K H a xs ∧ SqT K H b ys)
    (hs : ∀ i x y H T, xs[i]? = some x → ys[i]? = some y → Pv i H → H T = none → g (.ref T) (wipe σ vs) (upd H T (.tup [x, y])) fun σ2 H2 => wipe σ2 vs = wipe σ vs ∧ tt σ2 H2 fun b H3 =>
      if b = true then te σ2 H3 fun y H4 => ∃ acc, H4 D = some (.lst acc) ∧ acc.length < sizeLine ∧ Pv (i + 1) (upd H4 D (.lst (acc ++ [y]))) else Pv (i + 1) H3) (hd : ∀ H, Pv xs.length H → Qd H) :
    ∃ W : Nat → Nat → Hp → Prop, (∃ m, W 0 m (upd H1 D (.lst []))) ∧ ∀ i m H, W i m H →
      ((ItzT K a b).stop i H ∧ Qd H) ∨ ((ItzT K a b).go i H ∧ ∃ Nx : Hp → Prop, (∀ H', Nx H' → ∃ m', m' < m ∧ W (i + 1) m' H') ∧ ∀ x H', (ItzT K a b).yld i H x H' → g x (wipe σ vs) H' fun σ2 H2 => wipe σ2 vs = wipe σ vs ∧ tt σ2 H2 fun b H3 =>
        if b = true then te σ2 H3 fun y H4 => ∃ acc, H4 D = some (.lst acc) ∧ acc.length < sizeLine ∧ Nx (upd H4 D (.lst (acc ++ [y]))) else Nx H3) := by
  refine ⟨fun i m H => i ≤ xs.length ∧ m + i = xs.length ∧ Pv i H, ⟨xs.length, Nat.zero_le _, rfl, h0⟩, fun i m H hw => ?_⟩
  obtain ⟨hi, hm, hp⟩ := hw
  obtain ⟨q1, q2⟩ := hl i H hi hp
  by_cases hlt : i < xs.length
  · have hlt2 : i < ys.length := by omega
    refine .inr ⟨⟨xs, ys, xs[i], ys[i], q1, q2, List.getElem?_eq_getElem hlt, List.getElem?_eq_getElem hlt2⟩, Pv (i + 1), fun H' hp' => ⟨m - 1, by omega, by omega, by omega, hp'⟩, fun v H' hy => ?_⟩
    obtain ⟨T, x, y, rfl, nT, rfl, fx, fy⟩ := hy
    exact hs i x y H T (fx xs q1) (fy ys q2) hp nT
  · have ei : i = xs.length := by omega
    rw [ei] at hp
    exact .inl ⟨⟨xs, ys, q1, q2, .inl (by omega)⟩, hd H hp⟩
/-! ### rows in the heap -/
abbrev Strs (K : PySem.W.Frag) (H : Hp) : List Addr → Rows → Prop := Paired fun b row => SqL K H b (row.map V.str)
def RowsAt (K : PySem.W.Frag) (H : Hp) (a : Addr) (as : List Addr) (left : Rows) : Prop := SqL K H a (as.map V.ref) ∧ Strs K H as left
theorem Strs.same {K : PySem.W.Frag} {H H' : Hp} (e : Same H H') {as : List Addr} {left : Rows} (h : Strs K H as left) : Strs K H' as left := Paired.mapP h fun _ _ q => e.seq q
theorem RowsAt.same {K : PySem.W.Frag} {H H' : Hp} {a : Addr} {as : List Addr} {left : Rows} (h : RowsAt K H a as left) (e : Same H H') : RowsAt K H' a as left := ⟨e.seq h.1, h.2.same e⟩
theorem Strs.len {K : PySem.W.Frag} {H : Hp} {as : List Addr} {left : Rows} (h : Strs K H as left) : as.length = left.length := Paired.length h
theorem Strs.get {K : PySem.W.Frag} {H : Hp} : ∀ {as : List Addr} {left : Rows} {i : Nat} {b : Addr}, Strs K H as left → as[i]? = some b → ∃ row, left[i]? = some row ∧ SqL K H b (row.map V.str)
  | _, _, _, _, .nil, e => by cases e
  | _, _, 0, _, .cons r _, e => by cases e; exact ⟨_, rfl, r⟩
  | _, _, i + 1, _, .cons _ t, e => Strs.get (i := i) t e
theorem Strs.at {K : PySem.W.Frag} {H : Hp} : ∀ {as : List Addr} {left : Rows} {i : Nat} {row : List Str}, Strs K H as left → left[i]? = some row → ∃ b, as[i]? = some b ∧ SqL K H b (row.map V.str)
  | _, _, _, _, .nil, e => by cases e
  | _, _, 0, _, .cons r _, e => by cases e; exact ⟨_, rfl, r⟩
  | _, _, i + 1, _, .cons _ t, e => Strs.at (i := i) t e
theorem Strs.snoc {K : PySem.W.Frag} {H : Hp} {b : Addr} {row : List Str} : ∀ {as : List Addr} {left : Rows}, Strs K H as left → SqL K H b (row.map V.str) → Strs K H (as ++ [b]) (left ++ [row])
  | _, _, .nil, h => .cons h .nil
  | _, _, .cons r t, h => .cons r (Strs.snoc t h)
theorem Strs.lists {K : PySem.W.Frag} {H : Hp} : ∀ {as : List Addr} {left : Rows}, Strs K H as left → Lists K H as (left.map fun r => r.map V.str)
  | _, _, .nil => .nil
  | _, _, .cons r t => .cons r (Strs.lists t)
theorem flat_strs : ∀ xs : List Str, (xs.map V.str).all flatV = true
  | [] => rfl
  | x :: r => by
    rw [List.map_cons, List.all_cons, flat_strs r]
    rfl
theorem inV_strs (x : Str) : ∀ xs : List Str, inV (.str x) (xs.map V.str) = decide (x ∈ xs)
  | [] => by
    rw [decide_eq_false List.not_mem_nil]
    rfl
  | y :: r => by
    have ih := inV_strs x r
    unfold inV at ih ⊢
    rw [List.map_cons, List.any_cons, ih]
    show ((y == x) || decide (x ∈ r)) = decide (x ∈ y :: r)
    by_cases e : y = x
    · rw [e, beq_self_eq_true, Bool.true_or, decide_eq_true List.mem_cons_self]
    · rw [beq_false_of_ne e, Bool.false_or]
      by_cases c : x ∈ r
      · rw [decide_eq_true c, decide_eq_true (List.mem_cons_of_mem _ c)]
      · rw [decide_eq_false c, decide_eq_false fun h => (List.mem_cons.mp h).elim (fun q => e q.symm) c]
theorem cut_tail (xs : List Str) : cutV (xs.map V.str) (some 1) none = xs.tail.map V.str := by
  have h := cut_from (xs.map V.str) 1
  rw [List.drop_one, ← List.map_tail] at h
  exact h
theorem cut_head (xs : List Str) : cutV (xs.map V.str) none (some 1) = (xs.take 1).map V.str := by
  have h := cut_to (xs.map V.str) 1
  rw [← List.map_take] at h
  exact h
/-- the item of a list of places, or of texts, as a value -/
theorem ref_of {as : List Addr} {i : Nat} {x : V} (h : (as.map V.ref)[i]? = some x) : ∃ b, as[i]? = some b ∧ x = .ref b := by
  rw [List.getElem?_map] at h
  cases e : as[i]? with
  | none => rw [e] at h; cases h
  | some b => rw [e] at h; exact ⟨b, rfl, (Option.some.inj h).symm⟩
theorem str_of {xs : List Str} {i : Nat} {x : V} (h : (xs.map V.str)[i]? = some x) : ∃ z, xs[i]? = some z ∧ x = .str z := by
  rw [List.getElem?_map] at h
  cases e : xs[i]? with
  | none => rw [e] at h; cases h
  | some b => rw [e] at h; exact ⟨b, rfl, (Option.some.inj h).symm⟩
/-- texts as they may stand in data -/
def Ok (xs : List Str) : Prop := ∀ x ∈ xs, PyData.strOk x = true
theorem Ok.take {xs : List Str} (h : Ok xs) (n : Nat) : Ok (xs.take n) := fun x hx => h x (List.mem_of_mem_take hx)
theorem Ok.tail {xs : List Str} (h : Ok xs) : Ok xs.tail := fun x hx => h x (List.mem_of_mem_tail hx)
theorem eqv_strs : ∀ xs ys : List Str, PyData.eqvAll (xs.map PyData.str) (ys.map PyData.str) = decide (xs = ys)
  | [], [] => rfl
  | [], _ :: _ => rfl
  | _ :: _, [] => rfl
  | x :: r, y :: t => by
    show ((x == y) && PyData.eqvAll (r.map PyData.str) (t.map PyData.str)) = decide (x :: r = y :: t)
    rw [eqv_strs r t]
    by_cases e : x = y
    · rw [e, beq_self_eq_true, Bool.true_and]
      by_cases c : r = t
      · rw [c, decide_eq_true rfl, decide_eq_true rfl]
      · rw [decide_eq_false c, decide_eq_false fun h => c (List.cons.inj h).2]
    · rw [beq_false_of_ne e, Bool.false_and, decide_eq_false fun h => e (List.cons.inj h).1]
/-- the demands in the heap -/
abbrev DemsAt (H : Hp) : List Addr → List Dem → Prop := Paired fun t d => H t = some (.tup [.str d.one, .str d.other, nV d.num])
theorem paired_drop {α β : Type} {R : α → β → Prop} : ∀ (n : Nat) {xs : List α} {ys : List β}, Paired R xs ys → Paired R (xs.drop n) (ys.drop n)
  | 0, _, _, h => h
  | _ + 1, _, _, .nil => .nil
  | n + 1, _, _, .cons _ t => paired_drop n t
theorem paired_snoc {α β : Type} {R : α → β → Prop} {x : α} {y : β} (h : R x y) : ∀ {xs : List α} {ys : List β}, Paired R xs ys → Paired R (xs ++ [x]) (ys ++ [y])
  | _, _, .nil => .cons h .nil
  | _, _, .cons r t => .cons r (paired_snoc h t)
theorem paired_rev {α β : Type} {R : α → β → Prop} : ∀ {xs : List α} {ys : List β}, Paired R xs ys → Paired R xs.reverse ys.reverse
  | _, _, .nil => .nil
  | x :: xs, y :: ys, .cons r t => by
    rw [List.reverse_cons, List.reverse_cons]
    exact paired_snoc r (paired_rev t)
theorem DemsAt.same {H H' : Hp} {ts : List Addr} {ds : List Dem} (h : DemsAt H ts ds) (e : Same H H') : DemsAt H' ts ds := Paired.mapP h fun _ _ q => e _ _ q
theorem DemsAt.mut {H : Hp} {ts : List Addr} {ds : List Dem} {q : Addr} {xs : List V} {o : HO} (h : DemsAt H ts ds) (hq : H q = some (.lst xs)) : DemsAt (upd H q o) ts ds := Paired.mapP h fun t d z => by
  rw [upd_ne (ne_of z hq fun e => nomatch e)]
  exact z
def hds (left : Rows) : List Str := left.filterMap List.head?
section
variable {K : PySem.W.Frag}
/-- tracked lists of texts, apart from some places -/
abbrev StrsN (H : Hp) (av : List Addr) : List Addr → Rows → Prop := Paired fun b row => H b = some (.lst (row.map V.str)) ∧ b ∉ av
theorem StrsN.same {H H' : Hp} {av bs : List Addr} {left : Rows} (h : StrsN H av bs left) (e : Same H H') : StrsN H' av bs left := Paired.mapP h fun _ _ q => ⟨e _ _ q.1, q.2⟩
theorem StrsN.mut {H : Hp} {av bs : List Addr} {left : Rows} {q : Addr} {o : HO} (h : StrsN H av bs left) (hq : q ∈ av) : StrsN (upd H q o) av bs left := Paired.mapP h fun b _ z => ⟨by
  rw [upd_ne fun e : b = q => z.2 (by rw [e]; exact hq)]
  exact z.1, z.2⟩
theorem StrsN.strs {K : PySem.W.Frag} {H : Hp} {av : List Addr} {bs : List Addr} {left : Rows} (h : StrsN H av bs left) : Strs K H bs left := Paired.mapP h fun _ _ q => SqL.of q.1
theorem StrsN.av {H : Hp} {av av' bs : List Addr} {left : Rows} (h : StrsN H av bs left) (hs : ∀ b, H b ≠ none → b ∉ av → b ∉ av') : StrsN H av' bs left := Paired.mapP h fun b _ q => ⟨q.1, hs b (by rw [q.1]; exact fun e => nomatch e) q.2⟩
theorem StrsN.get {H : Hp} {av : List Addr} : ∀ {bs : List Addr} {left : Rows} {i : Nat} {b : Addr}, StrsN H av bs left → bs[i]? = some b → ∃ row, left[i]? = some row ∧ H b = some (.lst (row.map V.str)) ∧ b ∉ av
  | _, _, _, _, .nil, e => by cases e
  | _, _, 0, _, .cons r _, e => by cases e; exact ⟨_, rfl, r⟩
  | _, _, i + 1, _, .cons _ t, e => StrsN.get (i := i) t e
theorem any_done (left : Rows) : ((left.map fun r => r.map V.str).any fun xs => !xs.isEmpty) = !done left := by
  unfold done
  rw [Bool.not_not, List.any_map]
  congr 1
  funext r
  cases r <;> rfl
end
theorem ok_without {left : Rows} (h : ∀ r ∈ left, Ok r) (x : Str) : ∀ r ∈ left.map (without x), Ok r := fun r hr => by
  obtain ⟨r0, h0, rfl⟩ := List.mem_map.mp hr
  unfold without
  split
  · exact (h r0 h0).tail
  · exact h r0 h0
structure MB (mg : Str → Option Value) : Prop where
  m_isinstance : mg "isinstance" = none
  m_bool : mg "bool" = none
  m_str : mg "str" = none
  m_int : mg "int" = none
  m_tuple : mg "tuple" = none
  m_list : mg "list" = none
  m_len : mg "len" = none
  m_all : mg "all" = none
  m_zip : mg "zip" = none
  m_range : mg "range" = none
  m_enumerate : mg "enumerate" = none
  m_any : mg "any" = none
/-! ### rows as data -/
def rowD (r : List Str) : PyData := .list (r.map PyData.str)
theorem dp_rows {K : PySem.W.Frag} {H : Hp} : ∀ {as : List Addr} {rows : Rows}, Strs K H as rows → DpAll K H (as.map V.ref) (rows.map rowD)
  | _, _, .nil => .nil
  | _, _, .cons h t => .cons (.lst h (dp_strs _)) (dp_rows t)
theorem RowsAt.dp {K : PySem.W.Frag} {H : Hp} {a : Addr} {as : List Addr} {rows : Rows} (h : RowsAt K H a as rows) : Dp K H (.ref a) (.list (rows.map rowD)) := .lst h.1 (dp_rows h.2)
theorem lay_rows : ∀ rows : Rows, (∀ r ∈ rows, Ok r) → PyData.canLayAll0 (rows.map rowD) = true
  | [], _ => rfl
  | r :: t, h => by
    show (PyData.canLayAll0 (r.map PyData.str) && PyData.canLayAll0 (t.map rowD)) = true
    rw [lay_rows t fun y hy => h y (List.mem_cons_of_mem _ hy), lay_strs r (h r List.mem_cons_self)]
    rfl
theorem depth_rows : ∀ rows : Rows, PyData.depthAll (rows.map rowD) ≤ 1
  | [] => Nat.zero_le 1
  | r :: t => by
    show max (PyData.depthAll (r.map PyData.str) + 1) (PyData.depthAll (t.map rowD)) ≤ 1
    have h := depth_rows t
    rw [depth_strs]
    omega
theorem shaped_rows {rows : Rows} (h : ∀ r ∈ rows, Ok r) : SeqAt.shaped (.list (rows.map rowD)) = true := shaped_list (lay_rows rows h) (depth_rows rows) (by decide)
theorem eqv_rows : ∀ xs ys : Rows, PyData.eqvAll (xs.map rowD) (ys.map rowD) = decide (xs = ys)
  | [], [] => rfl
  | [], _ :: _ => rfl
  | _ :: _, [] => rfl
  | x :: r, y :: t => by
    show (PyData.eqvAll (x.map PyData.str) (y.map PyData.str) && PyData.eqvAll (r.map rowD) (t.map rowD)) = decide (x :: r = y :: t)
    rw [eqv_rows r t, eqv_strs]
    by_cases e : x = y
    · rw [decide_eq_true e, Bool.true_and]
      by_cases c : r = t
      · rw [decide_eq_true c, decide_eq_true (by rw [e, c])]
      · rw [decide_eq_false c, decide_eq_false fun h => c (List.cons.inj h).2]
    · rw [decide_eq_false e, Bool.false_and, decide_eq_false fun h => e (List.cons.inj h).1]
theorem done_filter (left : Rows) : decide ((left.filter fun r => !decide (r = [])) = []) = done left := by
  by_cases d : done left = true
  · rw [d, decide_eq_true]
    rw [List.filter_eq_nil_iff]
    intro r hr
    rw [done_iff.mp d r hr, decide_eq_true rfl]
    decide
  · have d2 : done left = false := by
      cases q : done left with
      | true => exact absurd q d
      | false => rfl
    rw [d2, decide_eq_false]
    intro e
    obtain ⟨x, t, h⟩ := not_done d2
    have := List.filter_eq_nil_iff.mp e _ h
    rw [decide_eq_false fun z => nomatch z] at this
    exact this rfl
theorem behind_take {left : Rows} {i : Nat} {row : List Str} (h : left[i]? = some row) : behind (left.take (i + 1)) = behind (left.take i) ++ row.tail := by
  unfold behind
  rw [List.take_add_one, h, List.map_append, List.flatten_append]
  show _ ++ (row.tail ++ []) = _
  rw [List.append_nil]
theorem behind_len : ∀ left : Rows, (behind left).length ≤ total left
  | [] => Nat.le_refl 0
  | r :: t => by
    have h := behind_len t
    unfold behind total at h ⊢
    rw [List.map_cons, List.flatten_cons, List.length_append, List.map_cons, List.sum_cons, List.length_tail]
    omega
theorem total_take (left : Rows) (i : Nat) : total (left.take i) ≤ total left := by
  have e : total left = total (left.take i) + total (left.drop i) := by
    unfold total
    rw [← List.sum_append, ← List.map_append, List.take_append_drop]
  omega
/-! ### demands as data -/
def demD (d : Dem) : PyData := .tuple [.str d.one, .str d.other, .int d.num]
theorem dp_dems {K : PySem.W.Frag} {H : Hp} : ∀ {ts : List Addr} {ds : List Dem}, DemsAt H ts ds → DpAll K H (ts.map V.ref) (ds.map demD)
  | _, _, .nil => .nil
  | _, _, .cons h t => .cons (.tup (SqT.of h) (.cons (.str _) (.cons (.str _) (.cons (.int _) .nil)))) (dp_dems t)
theorem DemIn.oks {rows : Rows} {d : Dem} (h : DemIn rows d) (ok : ∀ r ∈ rows, Ok r) : PyData.strOk d.one = true ∧ PyData.strOk d.other = true := by
  obtain ⟨row, h1, a, b, h2, h3⟩ := h
  have k := ok row (List.mem_of_getElem? h1)
  rw [h2] at k
  exact ⟨k _ (List.mem_append.mpr (.inr List.mem_cons_self)), k _ (List.mem_append.mpr (.inr (List.mem_cons_of_mem _ h3)))⟩
theorem lay_dems {rows : Rows} (ok : ∀ r ∈ rows, Ok r) : ∀ ds : List Dem, (∀ d ∈ ds, DemIn rows d) → PyData.canLayAll0 (ds.map demD) = true
  | [], _ => rfl
  | d :: t, h => by
    obtain ⟨o1, o2⟩ := (h d List.mem_cons_self).oks ok
    show ((PyData.strOk d.one && (PyData.strOk d.other && true)) && PyData.canLayAll0 (t.map demD)) = true
    rw [o1, o2, lay_dems ok t fun y hy => h y (List.mem_cons_of_mem _ hy)]
    rfl
theorem depth_dems : ∀ ds : List Dem, PyData.depthAll (ds.map demD) ≤ 1
  | [] => Nat.zero_le 1
  | d :: t => by
    show max (max 0 (max 0 (max 0 0)) + 1) (PyData.depthAll (t.map demD)) ≤ 1
    have h := depth_dems t
    omega
theorem Dems.get {H : Hp} : ∀ {ts : List Addr} {ds : List Dem} {i : Nat} {t : Addr}, DemsAt H ts ds → ts[i]? = some t → ∃ d, ds[i]? = some d ∧ H t = some (.tup [.str d.one, .str d.other, nV d.num])
  | _, _, _, _, .nil, e => by cases e
  | _, _, 0, _, .cons r _, e => by cases e; exact ⟨_, rfl, r⟩
  | _, _, i + 1, _, .cons _ t, e => Dems.get (i := i) t e
theorem Dems.at {H : Hp} : ∀ {ts : List Addr} {ds : List Dem} {i : Nat} {d : Dem}, DemsAt H ts ds → ds[i]? = some d → ∃ t, ts[i]? = some t ∧ H t = some (.tup [.str d.one, .str d.other, nV d.num])
  | _, _, _, _, .nil, e => by cases e
  | _, _, 0, _, .cons r _, e => by cases e; exact ⟨_, rfl, r⟩
  | _, _, i + 1, _, .cons _ t, e => Dems.at (i := i) t e
/-- where the two stand in a row of unlike names -/
theorem ahead_at {row : List Str} {x y : Str} (nd : row.Nodup) (h : Ahead row x y) : ∃ j k : Nat, j < k ∧ row[j]? = some x ∧ row[k]? = some y := by
  obtain ⟨a, b, rfl, hy⟩ := h
  obtain ⟨k, hk, e⟩ := List.getElem_of_mem hy
  refine ⟨a.length, a.length + (k + 1), by omega, by rw [List.getElem?_append_right (Nat.le_refl _), Nat.sub_self]; rfl, ?_⟩
  rw [List.getElem?_append_right (by omega), show a.length + (k + 1) - a.length = k + 1 by omega, List.getElem?_cons_succ, List.getElem?_eq_getElem hk, e]
theorem first_at {row : List Str} {x : Str} {j : Nat} (nd : row.Nodup) (h : row[j]? = some x) : ∀ (m : Nat) (z : V), m < j → (row.map V.str)[m]? = some z → eqV z (.str x) = false := fun m z hm hz => by
  obtain ⟨y, hy, rfl⟩ := str_of hz
  refine beq_false_of_ne fun e => ?_
  subst e
  have := nd_ix nd hy h
  omega
theorem wide_strs : ∀ xs : List Str, wideAll (xs.map PyData.str) = 0
  | [] => rfl
  | x :: r => by
    show max 0 (wideAll (r.map PyData.str)) = 0
    rw [wide_strs r]
    rfl
end Kin
/-! defs that are only called where no repr is under way -/
namespace Kin
open PySem PySem.Spec PyProof.Rows L2 RZ
section
variable {P : Program} {w : World} {K : PySem.W.Frag} {mg : Str → Option Value} {base : Heap}
/-- a def's promise, kept where no repr is under way -/
structure FnG (P : Program) (w : World) (K : PySem.W.Frag) (mg : Str → Option Value) (base : Heap) (k : Nat) (f : Addr) (fd : FuncData) (ps : List Str) (sp : Sp) : Prop where
  many : ∀ xs H Q E, sp xs H Q E → xs.length = ps.length
  go : ∀ (A : Around) (fr : List Env) (s : Shared) (H : Hp) (ar : Args) (us : List Value) (xs : List V) (Q : VK) (E : XK),
    A.guards = some [] → Room k A → Env0 P w K mg base A fr s H →
    BindsTo s fd ar (ps.zip us) → Vals xs us → sp xs H Q E →
    codeAny (model P w) A (.call (.ref f) ar) (CR CX0 fr P w H s Q E) s
theorem FnG.mono {j k : Nat} {f : Addr} {fd : FuncData} {ps : List Str} {sp : Sp} (F : FnG P w K mg base j f fd ps sp) (h : j ≤ k) : FnG P w K mg base k f fd ps sp :=
  ⟨F.many, fun A fr s H ar us xs Q E hg hr => F.go A fr s H ar us xs Q E hg (hr.mono h)⟩
/-- a def of the text by its body, where no repr is under way -/
theorem fnG_of {k : Nat} {x qual : Str} {st : Stmt} {f : Addr} {fd : FuncData} {N ps : List Str} {sp : Sp} (F : Fun K x qual st f fd) (S : FnScope N ps (defScope st)) (many : ∀ xs H Q E, sp xs H Q E → xs.length = ps.length)
    (hb : ∀ (cdv : Value) (A : Around) (fr : List Env) (s : Shared) (H : Hp) (xs : List V) (Q : VK) (E : XK), A.guards = some [] → Room k (A.deeper (envOfC qual (defScope st) s.heap.objs.size f cdv)) → sp xs H Q E →
      ∃ t, PSs (cxOf CX0 P w K mg base N qual (defScope st) f cdv A fr s H E).nox (defBody st) t ∧ t { nx := fun _ H' => Q .non H', rt := Q } (start N xs) H) : FnG P w K mg base (k + 1) f fd ps sp := by
  obtain ⟨oc, od, kV, doc, pm, an, cdv, ct, osl, rfl, lk, cd⟩ := F.ex
  refine ⟨many, fun A fr s H ar us xs Q E hg hr e0 bd rv hsp => ?_⟩
  have kept := fun b o e => (e0.bs b o e).1
  have KX := e0.mod.kin.keeps kept
  have lim := e0.mod.nolimit.keeps kept
  refine codeAny_call_function hr.depth
    (KX _ _ lk) rfl S.co S.gen rfl
    (PySem.W.codeRec_of KX cd) (bd _ _ _ _ ?_)
  refine wpAny_newFunctionEnv_cells S.kind (fun z hz => ?_)
    fun env he s1 ic => ?_
  · obtain ⟨y, v⟩ := z
    rcases S.par y (List.of_mem_zip hz).1 with c | c
    · exact Or.inl c
    · exact Or.inr ⟨c,
        PySem.W.cellsFrom_some _ _ _ (.inl c)⟩
  subst he
  refine ⟨lim.keeps ic.toInCall.keep,
    codeAny_func ?_⟩
  obtain ⟨t, ht, hq⟩ := hb cdv A fr s H xs Q E hg (hr.deeper _) hsp
  have I := inv_start (CX := CX0) (P := P) (w := w) (K := K) (mg := mg) (base := base) (E := E) S hr.hd e0 (many _ _ _ _ hsp) rv ic
  refine wpAny_mono (ht.nox.run [] s1 (start N xs) H _ I hq)
    (fun fl s' hs => ?_) (fun e s' hs => hs)
  cases fl with
  | ret u =>
    obtain ⟨v, σ', H', J, r, q⟩ := hs
    exact ⟨v, H', J.os, J.bare, J.base, J.hok, r, q⟩
  | next =>
    obtain ⟨σ', H', J, q⟩ := hs
    exact ⟨V.non, H', J.os, J.bare, J.base, J.hok, rfl, q⟩
  | brk => exact (hs.choose_spec.choose_spec.2).elim
  | cont => exact (hs.choose_spec.choose_spec.2).elim
/-- such a def by its name -/
structure ClG (P : Program) (w : World) (K : PySem.W.Frag) (mg : Str → Option Value) (base : Heap) (k : Nat) (x : Str) (sp : Sp) : Prop where
  ex : ∃ (f : Addr) (fd : FuncData) (ps : List Str), FnG P w K mg base k f fd ps sp ∧ mg x = some (.ref f) ∧ PySem.W.keepIn K (.ref f) = true ∧ Binds K fd ps []
theorem Def.clG {x : Str} {st : Stmt} {N ps : List Str} {k : Nat} {sp : Sp} (F : Def K mg x ps st) (S : FnScope N ps (defScope st)) (many : ∀ xs H Q E, sp xs H Q E → xs.length = ps.length)
    (hb : ∀ (f : Addr) (cdv : Value) (A : Around) (fr : List Env) (s : Shared) (H : Hp) (xs : List V) (Q : VK) (E : XK), A.guards = some [] → Room k (A.deeper (envOfC x (defScope st) s.heap.objs.size f cdv)) → sp xs H Q E →
      ∃ t, PSs (cxOf CX0 P w K mg base N x (defScope st) f cdv A fr s H E).nox (defBody st) t ∧ t { nx := fun _ H' => Q .non H', rt := Q } (start N xs) H) : ClG P w K mg base (k + 1) x sp := by
  obtain ⟨f, fd, G, hm, b⟩ := F.ex
  exact ⟨f, fd, ps, fnG_of G S many fun cdv A fr s H xs Q E hg hr h => hb f cdv A fr s H xs Q E hg hr h, hm, G.kp, b⟩
end
section
variable {X : Cx} {k j : Nat} {x : Str} {sp : Sp} {p pos : Pos} {e : Expr} {es : List Expr} {t : TA}
/-- the call of such a def -/
theorem pe_clG (c : ClG X.prog X.w X.K X.mg X.base k x sp) (hg : X.A.guards = some []) (hr : Room j X.A) (hk : k ≤ j) (gl : Gl X x) (ha : PA X (e :: es) t)
    (db : (x == ("__debug__" : Str)) = false := by decide) (st : starEach (e :: es) X.env = (false, eval e X.env) :: starEach es X.env := by rfl) (pl : (backTo pos (starEach es X.env)).any (·.1) = false := by rfl) :
    PE X (.Call (.Name x p) (e :: es) [] pos) (tCall sp [] E0 t) := by
  obtain ⟨f, fd, ps, F, hm, kp, b⟩ := c.ex
  refine PE.mk fun pins s σ H Q I h => wpAny_Call_Name_kw (ld_glob I gl hm ?_ db)
  refine PySem.W.callWith_K (h₀ := X.base) I.ok.mod.kin kp
    (thn (ha.run pos pins s σ H _ I h) fun us s1 z => ?_) st pl
  obtain ⟨xs, H1, J, rv, q⟩ := z
  refine ⟨J.kIn, ?_⟩
  rw [List.append_nil] at q
  have n1 : us.length = ps.length := rv.length ▸ F.many _ _ _ _ q
  have bd := b s1 us J.kIn (by rw [List.append_nil]; exact n1)
  rw [List.append_nil] at bd
  refine wpAny_call (codeAny_mono (F.go X.A X.stack s1 H1 ⟨us, []⟩ us xs Q E0 hg (hr.mono hk) J.env0 bd rv q)
    fun r s' hq => ?_)
  match r, hq with
  | .ok (.ret u), hq => exact J.after hq
  | .error _, hq => exact hq.elim
end
end Kin
/-! a law's end, its def kept where no repr is under way -/
namespace Kin
open PySem PySem.Spec PyProof.Rows L2 RZ
section
variable {P : Program} {w : World} {K : PySem.W.Frag} {mg mb : Str → Option Value} {k : Nat} {fa a : Addr} {fd : FuncData} {x : Str} {sp : Sp} {s : Shared} {vs : List Value} {ns : List Int}
/-- what a law's call tells: True, and all as it stood -/
def Told (s : Shared) (r : Result) (s' : Shared) : Prop := r = .ok (.ret (.bool true)) ∧ OldK s.heap s'.heap ∧ s'.os = s.os ∧ AllBare s'.gens
theorem noneH {H : Hp} {b c : Addr} (only : ∀ b, H b ≠ none → b = c) (n : b ≠ c) : H b = none := by
  by_cases e : H b = none
  · exact e
  · exact absurd (only b e) n
/-- from an abstract heap that tracks the script alone, or nothing -/
theorem toldH (KX : K.In s.heap) (g : s.heap.Ns mainGlobals mg) (b : s.heap.Ns builtinsNs mb) (boot : ∀ x : Str, x ≠ "__name__" → mb x = bootBuiltins x) (lim : s.heap.NoLimit) (gens : s.gens = #[])
    (ha : s.heap.get? a = some { cls := .type "list", data := .seq vs.toArray }) (rv : Vals (ns.map V.int) vs) (room : Room k callerA)
    (F : ∀ base : Heap, K.In base → base.Ns mainGlobals mg → FnG P w K mg base k fa fd [x] sp) (bd : ∀ (s : Shared) (u : Value), BindsTo s fd ⟨[u], []⟩ [(x, u)])
    (H : Hp) (only : ∀ b, H b ≠ none → b = a) (off : H a ≠ none → K.lookup a = none) (frz : H a = none ∨ ∃ o xs, H a = some (.frz o (.lst xs))) (hk : HOk P w H s.heap)
    (want : sp [.ref a] H (fun v _ => v = .bl true) fun _ _ _ => False) :
    codeAny (model P w) callerA (.call (.ref fa) ⟨[.ref a], []⟩) (Told s) s := by
  have lays : ∀ {c : Addr} {o : Obj} {es : Array DictEntry} {ep : Nat}, s.heap.get? c = some o → o.data = .dict es ep → H c = none := fun {c o es ep} h d => by
    refine noneH only fun e => ?_
    rw [e, ha] at h
    rw [← Option.some.inj h] at d
    exact Data.noConfusion d
  have spaces : ∀ {c : Addr} {m : Str → Option Value}, s.heap.Ns c m → (hidT s.heap H).Ns c m := fun {c m} z => by
    obtain ⟨o, es, ep, h, d, r⟩ := z
    exact ⟨o, es, ep, hidT_get h (lays h d), d, r⟩
  have written : K.In (hidT s.heap H) := fun c o h => by
    refine hidT_get (KX c o h) ?_
    by_cases n : H c = none
    · exact n
    · have e := only c n
      subst e
      rw [off n] at h
      exact nomatch h
  obtain ⟨mc, c1, c2⟩ := lim
  have md : Mod K mg (hidT s.heap H) := ⟨written, spaces g, ⟨mb, spaces b, boot⟩, ⟨mc, spaces c1, c2⟩⟩
  have e0 : Env0 P w K mg (hidT s.heap H) callerA [] s H := {
    frames := rfl
    mod := md
    bs := fun _ _ h => of_hidT h
    bsz := Nat.le_of_eq (hidT_size _ _)
    funs := trivial
    frf := fun _ h => nomatch h
    hok := hk
    bare := .of_eq gens }
  have run := (F _ written (spaces g)).go callerA [] s H ⟨[.ref a], []⟩
    [.ref a] [.ref a] _ _ rfl room e0 (bd s (.ref a)) (.cons rfl .nil) want
  refine codeAny_mono run fun r s' z => ?_
  match r, z with
  | .error _, z => exact z.elim
  | .ok (.ret u), z =>
    obtain ⟨v, H', os, bare, un, hok', r', q⟩ := z
    rw [show v = .bl true from q] at r'
    rw [show u = Value.bool true from r']
    refine ⟨rfl, OldK.of_keep fun c o h => ?_, os, bare⟩
    by_cases n : H c = none
    · exact un.keep c o h n (fun m => nomatch m) (by simp)
    · have e := only c n
      subst e
      rcases frz with z | ⟨ob, xs, z⟩
      · exact absurd z n
      · have e1 := (hk c _ z).1
        have e2 := (hok' c _ (un.frzs c ob _ z)).1
        rw [e1] at h
        rw [← h]
        exact e2
/-- the same from the script as it lies -/
theorem toldG (KX : K.In s.heap) (g : s.heap.Ns mainGlobals mg) (b : s.heap.Ns builtinsNs mb) (boot : ∀ x : Str, x ≠ "__name__" → mb x = bootBuiltins x) (lim : s.heap.NoLimit) (gens : s.gens = #[])
    (ha : s.heap.get? a = some { cls := .type "list", data := .seq vs.toArray }) (is : IntsAre vs ns) (few : ns.length ≤ sizeLine) (room : Room k callerA)
    (F : ∀ base : Heap, K.In base → base.Ns mainGlobals mg → FnG P w K mg base k fa fd [x] sp) (bd : ∀ (s : Shared) (u : Value), BindsTo s fd ⟨[u], []⟩ [(x, u)])
    (want : ∀ H : Hp, SqL K H a (ns.map V.int) → sp [.ref a] H (fun v _ => v = .bl true) fun _ _ _ => False) :
    codeAny (model P w) callerA (.call (.ref fa) ⟨[.ref a], []⟩) (Told s) s := by
  have rv := vals_ints is
  cases lk : K.lookup a with
  | some o =>
    have e := KX a o lk
    rw [ha] at e
    rw [← Option.some.inj e] at lk
    refine toldH KX g b boot lim gens ha rv room F bd (fun _ => none) (fun c n => absurd rfl n)
      (fun n => absurd rfl n) (.inl rfl) (fun c u z => nomatch z)
      (want _ (.inr ⟨_, vs.toArray, _, lk, rfl, rfl, rfl, ?_, rv⟩))
    rw [List.size_toArray, is.length]
    exact few
  | none =>
    have big : (ns.map V.int).length ≤ sizeLine := by rw [List.length_map]; exact few
    refine toldH KX g b boot lim gens ha rv room F bd
      (upd (fun _ => none) a (.frz { cls := .type "list", data := .seq vs.toArray } (.lst (ns.map V.int))))
      (fun c n => ?_) (fun _ => lk) (.inr ⟨_, _, upd_same⟩) (fun c u z => ?_)
      (want _ (.inl (.inr ⟨_, upd_same⟩)))
    · by_cases e : c = a
      · exact e
      · rw [upd_ne e] at n
        exact absurd rfl n
    · by_cases e : c = a
      · subst e
        rw [upd_same] at z
        rw [← Option.some.inj z]
        exact ⟨ha, big, vs, _, rv, ha⟩
      · rw [upd_ne e] at z
        exact nomatch z
end
/-- the goal that k_head leaves -/
theorem walk_ofG {l : PySem.W.OpenLaw} {n k : Nat} {q : Program} {loose : List Str} {XP : (Str → Option Value) → Heap → Prop} {YP : World → Heap → Prop} {d : DefRec} {K : Params → PySem.W.Frag} {sp : World → Sp} {x : Str}
    (hn : l.most = some n) (hn2 : n ≤ sizeLine) (hdf : d.params.defaults = []) (room : Room k callerA)
    (hY : ∀ (w : World) (h : Heap), YP w h → (K w.params).In h)
    (F : ∀ (w : World) (mg : Str → Option Value) (fa : Addr) (h : Heap), (K w.params).In h → h.Ns mainGlobals mg → mg d.name = some (.ref fa) →
      ∃ fd : FuncData, (∀ (s : Shared) (u : Value), BindsTo s fd ⟨[u], []⟩ [(x, u)]) ∧
        ∀ base : Heap, (K w.params).In base → base.Ns mainGlobals mg → FnG l.prog w (K w.params) mg base k fa fd [x] (sp w))
    (want : ∀ (w : World) (H : Hp) (a : Addr) (ns : List Int), ns.length ≤ n → SqL (K w.params) H a (ns.map V.int) → sp w [.ref a] H (fun v _ => v = .bl true) fun _ _ _ => False) :
    PySem.W.WalkO q loose XP YP l.row.toRowW d [] (fun f vs => PySem.call f vs) :=
  Att.attach_call hn hdf fun w s₀ s₁ mg mb fa o pm cd doc a vs ns G Y ho hd hcd hmg hobj is few gens => by
    obtain ⟨fd, bd, go⟩ := F w mg fa _ (hY w _ Y) G.T.g hmg
    exact toldG (hY w _ Y) G.T.g G.T.b G.T.builtins G.T.nolimit gens hobj is (Nat.le_trans few hn2) room go bd fun H hS => want w H a ns few hS
end Kin
namespace Kin
open PySem PySem.Spec PyProof.Rows L2 RZ
/-! ### repr of data, where no repr is under way -/
def rRepr (K : PySem.W.Frag) : List V → Hp → VK → Prop := fun vs H Q => ∃ (x : V) (d : PyData), vs = [x] ∧ Dp K H x d ∧ d.showable = true ∧ d.hasDict = false ∧ d.depth ≤ 60 ∧ d.shown.length ≤ sizeLine ∧ Q (.str d.shown) H
theorem call_reprD {X : Cx} (K : PySem.W.Frag) (hg : X.A.guards = some []) (hu : X.A.units + 64 < cLine) (hK : X.K = K := by rfl) : CallR X (.builtin "repr") (rRepr K) := by
  subst hK
  intro pins s σ H xs us Q I r h
  obtain ⟨x, d, rfl, hd, hs, hn, h60, hz, q⟩ := h
  cases d with
  | none =>
    cases hd
    obtain ⟨u, rfl, rfl⟩ := vals1 r
    exact PySem.P.repr_of_none ⟨.str _, H, I.tok _, ⟨_, rfl⟩, q⟩
  | bool b =>
    cases hd
    obtain ⟨u, rfl, rfl⟩ := vals1 r
    refine PySem.P.repr_of_bool ⟨.str _, H, I.tok _, ⟨_, rfl⟩, ?_⟩
    exact q
  | int i =>
    cases hd
    obtain ⟨u, rfl, t, rfl⟩ := vals1 r
    exact PySem.P.repr_of_int (of_decide_eq_true hs) ⟨.str _, H, I.tok _, ⟨_, rfl⟩, q⟩
  | str z =>
    cases hd
    obtain ⟨u, rfl, t, rfl⟩ := vals1 r
    exact PySem.P.repr_of_str (hsz := hz) ⟨.str _, H, I.tok _, ⟨_, rfl⟩, q⟩
  | dict kvs => cases hn
  | _ =>
    cases hd
    obtain rfl := Vals.ref1 r
    obtain ⟨as, rd⟩ := Dp.reads I _ (.ref _) (.ref _) (by first | exact .lst ‹_› ‹_› | exact .tup ‹_› ‹_›) rfl
    refine repr_of_reads' rd hs (fun h => by rw [hn] at h; cases h) ?_ ?_ (fun _ _ h => h) (fun h' u tk hk => ⟨.str _, H, I.kept hk, ⟨_, rfl⟩, q⟩) hz
    · exact hg
    · show _ + (_ + 1) < cLine
      omega
end Kin
/-! what an expression gives, as data, while some places may change -/
namespace Kin
open PySem PySem.Spec PyProof.Rows L2 RZ
/-- what may change (mv), what data keep away from (av), and what holds all along (I) -/
structure En where
  mv : List Addr
  av : List Addr
  sub : ∀ b ∈ mv, b ∈ av
  I : Hp → Prop
  on : ∀ {H : Hp}, I H → ∀ a ∈ av, H a ≠ none
  kp : ∀ {H H' : Hp}, I H → Same H H' → I H'
/-- all else stays -/
def En.R (E : En) (H H' : Hp) : Prop := E.I H ∧ (∀ b o, b ∉ E.mv → H b = some o → H' b = some o) ∧ E.I H'
def En0 : En where
  mv := []
  av := []
  sub := fun _ h => h
  I := fun _ => True
  on := fun _ _ h => nomatch h
  kp := fun _ _ => trivial
/-- the pot at p; data keep away from it and from some other places -/
def EnP (p c : Addr) (ns : List Int) (rs : List Addr) : En where
  mv := [p]
  av := p :: rs
  sub := fun b h => by
    rw [List.mem_singleton.mp h]
    exact List.mem_cons_self
  I := fun H => Pot H p c ns ∧ ∀ b ∈ rs, H b ≠ none
  on := fun {H} h a ha => by
    rcases List.mem_cons.mp ha with rfl | ha
    · intro e
      obtain ⟨⟨_, _, z⟩, _⟩ := h
      rw [z.hp] at e
      cases e
    · exact h.2 a ha
  kp := fun {H H'} h s => ⟨h.1.same s, fun b hb e => h.2 b hb (s.free e)⟩
section
variable {E : En} {H H1 H2 H' : Hp}
theorem En.rf (h : E.I H) : E.R H H := ⟨h, fun _ _ _ e => e, h⟩
theorem En.R.rfl (h : E.R H H1) : E.R H1 H1 := En.rf h.2.2
theorem En.R.here (h : E.R H H1) : E.R H H := En.rf h.1
theorem En.R.tr (a : E.R H H1) (b : E.R H1 H2) : E.R H H2 := ⟨a.1, fun c o n h => b.2.1 c o n (a.2.1 c o n h), b.2.2⟩
theorem En.same (h : E.I H) (s : Same H H') : E.R H H' := ⟨h, fun b o _ e => s b o e, E.kp h s⟩
theorem En.R.same (a : E.R H H1) (s : Same H1 H2) : E.R H H2 := a.tr (En.same a.2.2 s)
theorem En.R.new {q : Addr} {o : HO} (a : E.R H H1) (n : H1 q = none) : E.R H (upd H1 q o) := a.same (same_new n)
theorem En.off {q : Addr} (h : E.I H) (n : H q = none) : q ∉ E.av := fun m => E.on h q m n
theorem En.R.get {q : Addr} {o : HO} (a : E.R H H1) (n : q ∉ E.mv) (h : H q = some o) : H1 q = some o := a.2.1 q o n h
theorem En.R.free {q : Addr} (a : E.R H H1) (n : H1 q = none) : H q = none := by
  cases e : H q with
  | none => rfl
  | some o =>
    rw [a.2.1 q o (fun m => En.off a.2.2 n (E.sub q m)) e] at n
    cases n
/-- a thing made since the beginning is changed -/
theorem En.R.mut {q : Addr} {o : HO} (a : E.R H H1) (n : H q = none) (i : E.I (upd H1 q o)) : E.R H (upd H1 q o) := ⟨a.1, fun b u m e => by
  rw [upd_ne (ne_of_none e n)]
  exact a.2.1 b u m e, i⟩
theorem Go.r {p c : Addr} {ns : List Int} {rs : List Addr} (g : Go p c ns H H') (h : ∀ b ∈ rs, H b ≠ none) : (EnP p c ns rs).R H H' := ⟨⟨g.st, h⟩, fun b o n e => g.k b o (fun q => n (List.mem_singleton.mpr q)) e, g.pot, fun b hb e => by
  by_cases q : b = p
  · subst q
    obtain ⟨_, _, z⟩ := g.pot
    rw [z.hp] at e
    cases e
  · exact h b hb (g.k.free q e)⟩
theorem R.go {p c : Addr} {ns : List Int} {rs : List Addr} (g : (EnP p c ns rs).R H H') : Go p c ns H H' := ⟨g.1.1, fun b o n e => g.2.1 b o (fun q => n (List.mem_singleton.mp q)) e, g.2.2.1⟩
end
/-! ### data apart from these places: its lists are the run's own -/
section
variable {K : PySem.W.Frag} {av : List Addr} {H : Hp}
mutual
inductive Da (K : PySem.W.Frag) (av : List Addr) (H : Hp) : V → PyData → Prop
  | non : Da K av H .non .none
  | bl (b : Bool) : Da K av H (.bl b) (.bool b)
  | int (i : Int) : Da K av H (.int i) (.int i)
  | str (x : Str) : Da K av H (.str x) (.str x)
  | lst {a : Addr} {xs : List V} {ds : List PyData} (n : a ∉ av) (h : H a = some (.lst xs)) (t : DaAll K av H xs ds) : Da K av H (.ref a) (.list ds)
  | tup {a : Addr} {xs : List V} {ds : List PyData} (n : a ∉ av) (h : H a = some (.tup xs)) (t : DaAll K av H xs ds) : Da K av H (.ref a) (.tuple ds)
inductive DaAll (K : PySem.W.Frag) (av : List Addr) (H : Hp) : List V → List PyData → Prop
  | nil : DaAll K av H [] []
  | cons {x : V} {d : PyData} {xs : List V} {ds : List PyData} (h : Da K av H x d) (t : DaAll K av H xs ds) : DaAll K av H (x :: xs) (d :: ds)
end
mutual
theorem Da.dp : ∀ {d : PyData} {x : V}, Da K av H x d → Dp K H x d
  | _, _, .non => .non
  | _, _, .bl b => .bl b
  | _, _, .int i => .int i
  | _, _, .str x => .str x
  | .list _, _, .lst _ h t => .lst (SqL.of h) (DaAll.dp t)
  | .tuple _, _, .tup _ h t => .tup (SqT.of h) (DaAll.dp t)
theorem DaAll.dp : ∀ {ds : List PyData} {xs : List V}, DaAll K av H xs ds → DpAll K H xs ds
  | _, _, .nil => .nil
  | _ :: _, _ :: _, .cons h t => .cons (Da.dp h) (DaAll.dp t)
end
mutual
theorem Da.mono {H' : Hp} (e : ∀ b o, b ∉ av → H b = some o → H' b = some o) : ∀ {d : PyData} {x : V}, Da K av H x d → Da K av H' x d
  | _, _, .non => .non
  | _, _, .bl b => .bl b
  | _, _, .int i => .int i
  | _, _, .str x => .str x
  | .list _, _, .lst n h t => .lst n (e _ _ n h) (DaAll.mono e t)
  | .tuple _, _, .tup n h t => .tup n (e _ _ n h) (DaAll.mono e t)
theorem DaAll.mono {H' : Hp} (e : ∀ b o, b ∉ av → H b = some o → H' b = some o) : ∀ {ds : List PyData} {xs : List V}, DaAll K av H xs ds → DaAll K av H' xs ds
  | _, _, .nil => .nil
  | _ :: _, _ :: _, .cons h t => .cons (Da.mono e h) (DaAll.mono e t)
end
mutual
/-- data keep away from what is not there yet -/
theorem Da.off {q : Addr} (n : H q = none) : ∀ {d : PyData} {x : V}, Da K av H x d → Da K (av ++ [q]) H x d
  | _, _, .non => .non
  | _, _, .bl b => .bl b
  | _, _, .int i => .int i
  | _, _, .str x => .str x
  | .list _, _, .lst m h t => .lst (fun z => (List.mem_append.mp z).elim m fun z => by
      rw [List.mem_singleton.mp z, n] at h
      cases h) h (DaAll.off n t)
  | .tuple _, _, .tup m h t => .tup (fun z => (List.mem_append.mp z).elim m fun z => by
      rw [List.mem_singleton.mp z, n] at h
      cases h) h (DaAll.off n t)
theorem DaAll.off {q : Addr} (n : H q = none) : ∀ {ds : List PyData} {xs : List V}, DaAll K av H xs ds → DaAll K (av ++ [q]) H xs ds
  | _, _, .nil => .nil
  | _ :: _, _ :: _, .cons h t => .cons (Da.off n h) (DaAll.off n t)
end
mutual
theorem Da.less {bv : List Addr} (s : ∀ b ∈ bv, b ∈ av) : ∀ {d : PyData} {x : V}, Da K av H x d → Da K bv H x d
  | _, _, .non => .non
  | _, _, .bl b => .bl b
  | _, _, .int i => .int i
  | _, _, .str x => .str x
  | .list _, _, .lst m h t => .lst (fun z => m (s _ z)) h (DaAll.less s t)
  | .tuple _, _, .tup m h t => .tup (fun z => m (s _ z)) h (DaAll.less s t)
theorem DaAll.less {bv : List Addr} (s : ∀ b ∈ bv, b ∈ av) : ∀ {ds : List PyData} {xs : List V}, DaAll K av H xs ds → DaAll K bv H xs ds
  | _, _, .nil => .nil
  | _ :: _, _ :: _, .cons h t => .cons (Da.less s h) (DaAll.less s t)
end
/-- a place that they keep away from is changed -/
theorem Da.put {q : Addr} {o : HO} {d : PyData} {x : V} (h : Da K av H x d) (m : q ∈ av) : Da K av (upd H q o) x d := h.mono fun b u n e => by
  rw [upd_ne fun z : b = q => n (by rw [z]; exact m)]
  exact e
theorem DaAll.put {q : Addr} {o : HO} {ds : List PyData} {xs : List V} (h : DaAll K av H xs ds) (m : q ∈ av) : DaAll K av (upd H q o) xs ds := h.mono fun b u n e => by
  rw [upd_ne fun z : b = q => n (by rw [z]; exact m)]
  exact e
theorem DaAll.len : ∀ {xs : List V} {ds : List PyData}, DaAll K av H xs ds → xs.length = ds.length
  | _, _, .nil => rfl
  | _, _, .cons _ t => congrArg (· + 1) (DaAll.len t)
theorem DaAll.get : ∀ {xs : List V} {ds : List PyData} {i : Nat} {x : V}, DaAll K av H xs ds → xs[i]? = some x → ∃ d, ds[i]? = some d ∧ Da K av H x d
  | _, _, _, _, .nil, e => by cases e
  | _, _, 0, _, .cons r _, e => by cases e; exact ⟨_, rfl, r⟩
  | _, _, i + 1, _, .cons _ t, e => DaAll.get (i := i) t e
theorem DaAll.at : ∀ {xs : List V} {ds : List PyData} {i : Nat} {d : PyData}, DaAll K av H xs ds → ds[i]? = some d → ∃ x, xs[i]? = some x ∧ Da K av H x d
  | _, _, _, _, .nil, e => by cases e
  | _, _, 0, _, .cons r _, e => by cases e; exact ⟨_, rfl, r⟩
  | _, _, i + 1, _, .cons _ t, e => DaAll.at (i := i) t e
theorem DaAll.app : ∀ {xs ys : List V} {ds es : List PyData}, DaAll K av H xs ds → DaAll K av H ys es → DaAll K av H (xs ++ ys) (ds ++ es)
  | _, _, _, _, .nil, h => h
  | _, _, _, _, .cons r t, h => .cons r (DaAll.app t h)
theorem DaAll.drop : ∀ (n : Nat) {xs : List V} {ds : List PyData}, DaAll K av H xs ds → DaAll K av H (xs.drop n) (ds.drop n)
  | 0, _, _, h => h
  | _ + 1, _, _, .nil => .nil
  | n + 1, _, _, .cons _ t => DaAll.drop n t
theorem DaAll.take : ∀ (n : Nat) {xs : List V} {ds : List PyData}, DaAll K av H xs ds → DaAll K av H (xs.take n) (ds.take n)
  | 0, _, _, _ => .nil
  | _ + 1, _, _, .nil => .nil
  | n + 1, _, _, .cons h t => .cons h (DaAll.take n t)
theorem DaAll.rev : ∀ {xs : List V} {ds : List PyData}, DaAll K av H xs ds → DaAll K av H xs.reverse ds.reverse
  | _, _, .nil => .nil
  | _, _, .cons h t => by
    rw [List.reverse_cons, List.reverse_cons]
    exact (DaAll.rev t).app (.cons h .nil)
theorem da_strs : ∀ xs : List Str, DaAll K av H (xs.map V.str) (xs.map PyData.str)
  | [] => .nil
  | x :: r => .cons (.str x) (da_strs r)
theorem da_ints : ∀ xs : List Int, DaAll K av H (xs.map V.int) (xs.map PyData.int)
  | [] => .nil
  | x :: r => .cons (.int x) (da_ints r)
theorem da_bools : ∀ xs : List Bool, DaAll K av H (xs.map V.bl) (xs.map PyData.bool)
  | [] => .nil
  | x :: r => .cons (.bl x) (da_bools r)
end
section
variable {K : PySem.W.Frag} {E : En} {H H1 H2 : Hp}
theorem Da.r {x : V} {d : PyData} (h : Da K E.av H x d) (r : E.R H H1) : Da K E.av H1 x d := h.mono fun b o n => r.2.1 b o fun m => n (E.sub b m)
theorem DaAll.r {xs : List V} {ds : List PyData} (h : DaAll K E.av H xs ds) (r : E.R H H1) : DaAll K E.av H1 xs ds := h.mono fun b o n => r.2.1 b o fun m => n (E.sub b m)
theorem Da.newT {q : Addr} {xs : List V} {ds : List PyData} (i : E.I H) (n : H q = none) (h : DaAll K E.av H xs ds) : Da K E.av (upd H q (.tup xs)) (.ref q) (.tuple ds) :=
  .tup (En.off i n) upd_same (h.r (En.same i (same_new n)))
theorem Da.newL {q : Addr} {xs : List V} {ds : List PyData} (i : E.I H) (n : H q = none) (h : DaAll K E.av H xs ds) : Da K E.av (upd H q (.lst xs)) (.ref q) (.list ds) :=
  .lst (En.off i n) upd_same (h.r (En.same i (same_new n)))
end
/-! ### what is given -/
def Gv (K : PySem.W.Frag) (E : En) (te : TE) (σ : L2.St) (H : Hp) (G : PyData → Prop) : Prop := ∀ H1, E.R H H1 → ∀ Q : VK, (∀ x d H2, E.R H1 H2 → Da K E.av H2 x d → G d → Q x H2) → te σ H1 Q
def GvA (K : PySem.W.Frag) (E : En) (ta : TA) (σ : L2.St) (H : Hp) (G : List PyData → Prop) : Prop := ∀ H1, E.R H H1 → ∀ Q : List V → Hp → Prop, (∀ xs ds H2, E.R H1 H2 → DaAll K E.av H2 xs ds → G ds → Q xs H2) → ta σ H1 Q
def GvT (E : En) (tt : TT) (σ : L2.St) (H : Hp) (G : Bool → Prop) : Prop := ∀ H1, E.R H H1 → ∀ Q : Bool → Hp → Prop, (∀ b H2, E.R H1 H2 → G b → Q b H2) → tt σ H1 Q
def GvO (K : PySem.W.Frag) (E : En) (to : TO) (σ : L2.St) (H : Hp) (G : Option Int → Prop) : Prop := ∀ H1, E.R H H1 → ∀ Q : Option Int → Hp → Prop, (∀ o H2, E.R H1 H2 → G o → Q o H2) → to σ H1 Q
section
variable {K : PySem.W.Frag} {E : En} {H H1 H2 : Hp} {σ : L2.St} {ta tb te : TE} {tA : TA} {t u : TT} {G G' : PyData → Prop}
theorem Gv.r (h : Gv K E te σ H G) (r : E.R H H1) : Gv K E te σ H1 G := fun H2 r2 Q q => h H2 (r.tr r2) Q q
theorem GvT.r {G : Bool → Prop} (h : GvT E t σ H G) (r : E.R H H1) : GvT E t σ H1 G := fun H2 r2 Q q => h H2 (r.tr r2) Q q
theorem Gv.imp (h : Gv K E te σ H G) (i : ∀ d, G d → G' d) : Gv K E te σ H G' := fun H1 r Q q => h H1 r Q fun x d H2 r2 hd g => q x d H2 r2 hd (i d g)
theorem GvT.imp {G G' : Bool → Prop} (h : GvT E t σ H G) (i : ∀ d, G d → G' d) : GvT E t σ H G' := fun H1 r Q q => h H1 r Q fun b H2 r2 g => q b H2 r2 (i b g)
theorem gv_var {i : Nat} {x : V} {d : PyData} (hd : Da K E.av H x d) (h : σ[i]? = some (some x) := by rfl) : Gv K E (tVar i) σ H (· = d) := fun H1 r Q q => ⟨x, h, q x d H1 r.rfl (hd.r r) rfl⟩
theorem gv_non : Gv K E (tC .non) σ H (· = .none) := fun H1 r Q q => q _ _ H1 r.rfl .non rfl
theorem gv_bl {b : Bool} : Gv K E (tC (.bl b)) σ H (· = .bool b) := fun H1 r Q q => q _ _ H1 r.rfl (.bl b) rfl
theorem gv_int {i : Int} : Gv K E (tC (.int i)) σ H (· = .int i) := fun H1 r Q q => q _ _ H1 r.rfl (.int i) rfl
theorem gv_str {x : Str} : Gv K E (tC (.str x)) σ H (· = .str x) := fun H1 r Q q => q _ _ H1 r.rfl (.str x) rfl
theorem ga_nil : GvA K E tNil σ H (· = []) := fun H1 r Q q => q [] [] H1 r.rfl .nil rfl
theorem ga_cons {G : PyData → Prop} {Gs : PyData → List PyData → Prop} (h : Gv K E te σ H G) (t : ∀ d, G d → GvA K E tA σ H (Gs d)) : GvA K E (tCons te tA) σ H (fun l => ∃ d r, l = d :: r ∧ G d ∧ Gs d r) := fun H1 r Q q =>
  h H1 r _ fun x d H2 r2 hd g => t d g H2 (r.tr r2) _ fun xs ds H3 r3 hds gs => q _ _ H3 (r2.tr r3) (.cons (hd.r r3) hds) ⟨d, ds, rfl, g, gs⟩
/-- the same of what is sure -/
theorem ga_cons' {d : PyData} {ds : List PyData} (h : Gv K E te σ H (· = d)) (t : GvA K E tA σ H (· = ds)) : GvA K E (tCons te tA) σ H (· = d :: ds) := fun H1 r Q q =>
  h H1 r _ fun x d' H2 r2 hd g => t H2 (r.tr r2) _ fun xs ds' H3 r3 hds gs => q _ _ H3 (r2.tr r3) (.cons (hd.r r3) hds) (by rw [g, gs])
theorem gv_tup {Gs : List PyData → Prop} (h : GvA K E tA σ H Gs) (l : ∀ ds, Gs ds → ds.length ≤ 1000) : Gv K E (tTup tA) σ H (fun d => ∃ ds, d = .tuple ds ∧ Gs ds) := fun H1 r Q q =>
  h H1 r _ fun xs ds H2 r2 hds g => ⟨by rw [hds.len]; exact Nat.le_of_lt (small1000 (l ds g)), fun p np => q _ _ _ (r2.new np) (Da.newT r2.2.2 np hds) ⟨ds, rfl, g⟩⟩
theorem gv_tup' {ds : List PyData} (h : GvA K E tA σ H (· = ds)) (l : ds.length ≤ 1000 := by decide) : Gv K E (tTup tA) σ H (· = .tuple ds) := (gv_tup h fun _ e => by rw [e]; exact l).imp fun d ⟨ds', e, g⟩ => by rw [e, g]
theorem gv_lst {Gs : List PyData → Prop} (h : GvA K E tA σ H Gs) (l : ∀ ds, Gs ds → ds.length ≤ 1000) : Gv K E (tLst tA) σ H (fun d => ∃ ds, d = .list ds ∧ Gs ds) := fun H1 r Q q =>
  h H1 r _ fun xs ds H2 r2 hds g => ⟨by rw [hds.len]; exact Nat.le_of_lt (small1000 (l ds g)), fun p np => q _ _ _ (r2.new np) (Da.newL r2.2.2 np hds) ⟨ds, rfl, g⟩⟩
theorem gv_lst' {ds : List PyData} (h : GvA K E tA σ H (· = ds)) (l : ds.length ≤ 1000 := by decide) : Gv K E (tLst tA) σ H (· = .list ds) := (gv_lst h fun _ e => by rw [e]; exact l).imp fun d ⟨ds', e, g⟩ => by rw [e, g]
/-- an operator over what two expressions give -/
theorem gv_op {r : R2} {G1 : PyData → Prop} {G2 : PyData → PyData → Prop} (ha : Gv K E ta σ H G1) (hb : ∀ d, G1 d → Gv K E tb σ H (G2 d))
    (hr : ∀ x y d e H1 (Q : VK), E.R H H1 → Da K E.av H1 x d → Da K E.av H1 y e → G1 d → G2 d e → (∀ z f H2, E.R H1 H2 → Da K E.av H2 z f → G f → Q z H2) → r x y H1 Q) : Gv K E (tOp r ta tb) σ H G := fun H1 r1 Q q =>
  ha H1 r1 _ fun x d H2 r2 hd g1 => hb d g1 H2 (r1.tr r2) _ fun y e H3 r3 he g2 => hr x y d e H3 Q ((r1.tr r2).tr r3) (hd.r r3) he g1 g2 fun z f H4 r4 hz g => q z f H4 ((r2.tr r3).tr r4) hz g
theorem atI_lt {ds : List PyData} {xs : List V} (h : DaAll K E.av H xs ds) {i : Nat} (hi : i < ds.length) : ∃ x, xs[i]? = some x ∧ Da K E.av H x ds[i] := h.at (List.getElem?_eq_getElem hi)
theorem gv_ixT {G1 : PyData → Prop} {G2 : PyData → PyData → Prop} (ha : Gv K E ta σ H G1) (hb : ∀ d, G1 d → Gv K E tb σ H (G2 d)) (hg : ∀ d e, G1 d → G2 d e → ∃ ds i f, d = .tuple ds ∧ e = .int ((i : Nat) : Int) ∧ ds[i]? = some f ∧ G f) : Gv K E (tOp (rIxT K) ta tb) σ H G :=
  gv_op ha hb fun x y d e H1 Q r hd he g1 g2 q => by
    obtain ⟨ds, i, f, rfl, rfl, hf, g⟩ := hg d e g1 g2
    cases he
    cases hd with
    | tup n h t =>
      obtain ⟨v, hv, hvd⟩ := t.at hf
      exact ⟨_, _, _, v, rfl, rfl, SqT.of h, at_of (j := i) rfl hv, q v f H1 r.rfl hvd g⟩
theorem gv_ixL {G1 : PyData → Prop} {G2 : PyData → PyData → Prop} (ha : Gv K E ta σ H G1) (hb : ∀ d, G1 d → Gv K E tb σ H (G2 d)) (hg : ∀ d e, G1 d → G2 d e → ∃ ds i f, d = .list ds ∧ e = .int ((i : Nat) : Int) ∧ ds[i]? = some f ∧ G f) : Gv K E (tOp (rIxL K) ta tb) σ H G :=
  gv_op ha hb fun x y d e H1 Q r hd he g1 g2 q => by
    obtain ⟨ds, i, f, rfl, rfl, hf, g⟩ := hg d e g1 g2
    cases he
    cases hd with
    | lst n h t =>
      obtain ⟨v, hv, hvd⟩ := t.at hf
      exact ⟨_, _, _, v, rfl, rfl, SqL.of h, at_of (j := i) rfl hv, q v f H1 r.rfl hvd g⟩
theorem gv_cat {ds es : List PyData} (ha : Gv K E ta σ H (· = .list ds)) (hb : Gv K E tb σ H (· = .list es)) (l : ds.length + es.length ≤ 1000) : Gv K E (tOp rCat ta tb) σ H (· = .list (ds ++ es)) :=
  gv_op (G2 := fun _ => (· = .list es)) ha (fun _ _ => hb) fun x y d e H1 Q r hd he g1 g2 q => by
    subst g1 g2
    cases hd with
    | lst n h t =>
      cases he with
      | lst n2 h2 t2 => exact ⟨_, _, _, _, rfl, rfl, h, h2, by rw [t.len, t2.len]; exact Nat.le_of_lt (small1000 l), fun p np => q _ _ _ (r.rfl.new np) (Da.newL r.2.2 np (t.app t2)) rfl⟩
theorem gv_catT {G1 : PyData → Prop} {G2 : PyData → PyData → Prop} (ha : Gv K E ta σ H G1) (hb : ∀ d, G1 d → Gv K E tb σ H (G2 d)) (hg : ∀ d e, G1 d → G2 d e → ∃ ds es, d = .tuple ds ∧ e = .tuple es ∧ ds.length + es.length ≤ 1000 ∧ G (.tuple (ds ++ es))) : Gv K E (tOp (rCatA K) ta tb) σ H G :=
  gv_op ha hb fun x y d e H1 Q r hd he g1 g2 q => by
    obtain ⟨ds, es, rfl, rfl, l, g⟩ := hg d e g1 g2
    cases hd with
    | tup n h t =>
      cases he with
      | tup n2 h2 t2 =>
        rename_i a1 xs a2 ys
        refine ⟨_, _, _, _, rfl, rfl, SqT.of h, SqT.of h2, by rw [t.len, t2.len]; exact Nat.le_of_lt (small1000 l), fun e0 => ?_, fun e1 e0 => ?_, fun _ _ p np => q _ _ _ (r.rfl.new np) (Da.newT r.2.2 np (t.app t2)) g⟩
        · subst e0
          cases t
          exact q _ _ _ r.rfl (.tup n2 h2 t2) g
        · subst e0
          cases t2
          rw [List.append_nil] at g
          exact q _ _ _ r.rfl (.tup n h t) g
theorem gv_I0 {f : Int → Int → V} {fd : Int → Int → PyData} {i j : Int} (ha : Gv K E ta σ H (· = .int i)) (hb : Gv K E tb σ H (· = .int j)) (hf : ∀ H, Da K E.av H (f i j) (fd i j)) : Gv K E (tOp (rI0 f) ta tb) σ H (· = fd i j) :=
  gv_op (G2 := fun _ => (· = .int j)) ha (fun _ _ => hb) fun x y d e H1 Q r hd he g1 g2 q => by
    subst g1 g2
    cases hd
    cases he
    exact ⟨i, j, rfl, rfl, q _ _ H1 r.rfl (hf H1) rfl⟩
theorem gv_Ic {C : Int → Int → Prop} {f : Int → Int → V} {fd : Int → Int → PyData} {G1 G2 : Int → Prop} (ha : Gv K E ta σ H (fun d => ∃ i, d = .int i ∧ G1 i)) (hb : Gv K E tb σ H (fun d => ∃ j, d = .int j ∧ G2 j)) (hc : ∀ i j, G1 i → G2 j → C i j) (hf : ∀ i j H, Da K E.av H (f i j) (fd i j)) :
    Gv K E (tOp (rI C f) ta tb) σ H (fun d => ∃ i j, d = fd i j ∧ G1 i ∧ G2 j) :=
  gv_op (G2 := fun _ d => ∃ j, d = .int j ∧ G2 j) ha (fun _ _ => hb) fun x y d e H1 Q r hd he g1 g2 q => by
    obtain ⟨i, rfl, g1⟩ := g1
    obtain ⟨j, rfl, g2⟩ := g2
    cases hd
    cases he
    exact ⟨i, j, rfl, rfl, hc i j g1 g2, q _ _ H1 r.rfl (hf i j H1) ⟨i, j, rfl, g1, g2⟩⟩
theorem gv_I0c {f : Int → Int → V} {fd : Int → Int → PyData} {G1 G2 : Int → Prop} (ha : Gv K E ta σ H (fun d => ∃ i, d = .int i ∧ G1 i)) (hb : Gv K E tb σ H (fun d => ∃ j, d = .int j ∧ G2 j)) (hf : ∀ i j H, Da K E.av H (f i j) (fd i j)) :
    Gv K E (tOp (rI0 f) ta tb) σ H (fun d => ∃ i j, d = fd i j ∧ G1 i ∧ G2 j) :=
  gv_op (G2 := fun _ d => ∃ j, d = .int j ∧ G2 j) ha (fun _ _ => hb) fun x y d e H1 Q r hd he g1 g2 q => by
    obtain ⟨i, rfl, g1⟩ := g1
    obtain ⟨j, rfl, g2⟩ := g2
    cases hd
    cases he
    exact ⟨i, j, rfl, rfl, q _ _ H1 r.rfl (hf i j H1) ⟨i, j, rfl, g1, g2⟩⟩
/-- ints that are sure -/
theorem gi_op {C : Int → Int → Prop} {f : Int → Int → Int} {i j : Int} (ha : Gv K E ta σ H (· = .int i)) (hb : Gv K E tb σ H (· = .int j)) (hc : C i j) : Gv K E (tOp (rI C fun i j => .int (f i j)) ta tb) σ H (· = .int (f i j)) :=
  gv_op (G2 := fun _ => (· = .int j)) ha (fun _ _ => hb) fun x y d e H1 Q r hd he g1 g2 q => by
    subst g1 g2
    cases hd
    cases he
    exact ⟨i, j, rfl, rfl, hc, q _ _ H1 r.rfl (.int _) rfl⟩
theorem gi_op0 {f : Int → Int → Int} {i j : Int} (ha : Gv K E ta σ H (· = .int i)) (hb : Gv K E tb σ H (· = .int j)) : Gv K E (tOp (rI0 fun i j => .int (f i j)) ta tb) σ H (· = .int (f i j)) := gv_I0 (f := fun i j => .int (f i j)) (fd := fun i j => .int (f i j)) ha hb fun _ => .int _
theorem gi_neg {i : Int} (ha : Gv K E ta σ H (· = .int i)) : Gv K E (tUn (rU fun i => .int (-i)) ta) σ H (· = .int (-i)) := fun H1 r Q q => ha H1 r _ fun x d H2 r2 hd g => by
  subst g
  cases hd
  exact ⟨i, rfl, q _ _ H2 r2 (.int _) rfl⟩
theorem gv_repS {z : Str} {k : Int} (ha : Gv K E ta σ H (· = .str z)) (hb : Gv K E tb σ H (· = .int k)) (h : 1 ≤ k ∧ k ≤ 1000 ∧ z.length ≤ 1000 ∧ 1 ≤ z.length) : Gv K E (tOp rRepS ta tb) σ H (· = .str ⟨(List.replicate k.toNat z.cps.toList).flatten.toArray⟩) :=
  gv_op (G2 := fun _ => (· = .int k)) ha (fun _ _ => hb) fun x y d e H1 Q r hd he g1 g2 q => by
    subst g1 g2
    cases hd
    cases he
    exact ⟨z, k, rfl, rfl, h.1, h.2.1, h.2.2.1, h.2.2.2, q _ _ H1 r.rfl (.str _) rfl⟩
theorem go_none : GvO K E tNoPart σ H (· = none) := fun H1 r Q q => q none H1 r.rfl rfl
theorem go_some {i : Int} (h : Gv K E te σ H (· = .int i)) : GvO K E (tPart te) σ H (· = some i) := fun H1 r Q q => h H1 r _ fun x d H2 r2 hd g => by
  subst g
  cases hd
  exact ⟨i, rfl, q _ H2 r2 rfl⟩
def cutD (ds : List PyData) (lo hi : Option Int) : List PyData := (ds.drop (HT.sIx ds.length 0 lo)).take (HT.sIx ds.length ds.length hi - HT.sIx ds.length 0 lo)
theorem DaAll.cut {xs : List V} {ds : List PyData} (h : DaAll K E.av H xs ds) (lo hi : Option Int) : DaAll K E.av H (cutV xs lo hi) (cutD ds lo hi) := by
  unfold cutV cutD
  rw [h.len]
  exact (h.drop _).take _
theorem gv_slT {ds : List PyData} {to tp : TO} {lo hi : Option Int} (ha : Gv K E ta σ H (· = .tuple ds)) (hl : GvO K E to σ H (· = lo)) (hh : GvO K E tp σ H (· = hi)) : Gv K E (tSl (rSlA K) ta to tp) σ H (· = .tuple (cutD ds lo hi)) := fun H1 r1 Q q =>
  ha H1 r1 _ fun x d H2 r2 hd g => hl H2 (r1.tr r2) _ fun l H3 r3 gl => hh H3 ((r1.tr r2).tr r3) _ fun u H4 r4 gu => by
    subst g gl gu
    have r24 := r3.tr r4
    have hd := hd.r r24
    have rr := r2.tr r24
    cases hd with
    | tup n h t =>
      rename_i a xs
      refine ⟨a, xs, rfl, SqT.of h, fun e => ?_, fun _ p np => q _ _ _ (rr.new np) (Da.newT rr.2.2 np (t.cut l u)) rfl⟩
      have e2 : cutD ds l u = ds := by
        unfold cutD
        rw [← t.len, e.1, e.2, List.drop_zero, Nat.sub_zero, t.len, List.take_length]
      refine q _ _ _ rr ?_ rfl
      rw [e2]
      exact .tup n h t
theorem gv_slL {ds : List PyData} {to tp : TO} {lo hi : Option Int} (ha : Gv K E ta σ H (· = .list ds)) (hl : GvO K E to σ H (· = lo)) (hh : GvO K E tp σ H (· = hi)) : Gv K E (tSl (rSlL K) ta to tp) σ H (· = .list (cutD ds lo hi)) := fun H1 r1 Q q =>
  ha H1 r1 _ fun x d H2 r2 hd g => hl H2 (r1.tr r2) _ fun l H3 r3 gl => hh H3 ((r1.tr r2).tr r3) _ fun u H4 r4 gu => by
    subst g gl gu
    have r24 := r3.tr r4
    have hd := hd.r r24
    have rr := r2.tr r24
    cases hd with
    | lst n h t => exact ⟨_, _, rfl, SqL.of h, fun p np => q _ _ _ (rr.new np) (Da.newL rr.2.2 np (t.cut l u)) rfl⟩
theorem cutD_to (ds : List PyData) (k : Nat) : cutD ds none (some (k : Int)) = ds.take k := by
  unfold cutD
  rw [HT.sIx_nat, HT.sIx_none, List.drop_zero, Nat.sub_zero]
  by_cases h : k ≤ ds.length
  · rw [Nat.min_eq_left h]
  · rw [Nat.min_eq_right (by omega), List.take_length, List.take_of_length_le (by omega)]
theorem cutD_from (ds : List PyData) (k : Nat) : cutD ds (some (k : Int)) none = ds.drop k := by
  unfold cutD
  rw [HT.sIx_nat, HT.sIx_none]
  by_cases h : k ≤ ds.length
  · rw [Nat.min_eq_left h, ← List.length_drop]
    exact List.take_length
  · have h2 : ds.length ≤ k := by omega
    rw [Nat.min_eq_right h2, List.drop_of_length_le h2, List.drop_of_length_le (Nat.le_refl _)]
    exact List.take_nil
/-- list(..) of a list or a tuple -/
theorem gv_list {G1 : PyData → Prop} (ha : Gv K E ta σ H G1) (hg : ∀ d, G1 d → ∃ ds, (d = .list ds ∨ d = .tuple ds) ∧ G (.list ds)) : Gv K E (tCB (rListK K) (tCons ta tNil)) σ H G := fun H1 r Q q => ha H1 r _ fun x d H2 r2 hd g1 => by
  obtain ⟨ds, e, g2⟩ := hg d g1
  rcases e with rfl | rfl
  · cases hd with
    | lst n h t => exact ⟨_, _, rfl, .inl (SqL.of h), fun l nl => q _ _ _ (r2.new nl) (Da.newL r2.2.2 nl t) g2⟩
  · cases hd with
    | tup n h t => exact ⟨_, _, rfl, .inr (SqT.of h), fun l nl => q _ _ _ (r2.new nl) (Da.newL r2.2.2 nl t) g2⟩
theorem gv_len {ds : List PyData} (ha : Gv K E ta σ H (fun d => d = .list ds ∨ d = .tuple ds)) : Gv K E (tCB (rLenK K) (tCons ta tNil)) σ H (· = .int ds.length) := fun H1 r Q q => ha H1 r _ fun x d H2 r2 hd g => by
  rcases g with rfl | rfl
  · cases hd with
    | lst n h t => exact ⟨_, _, rfl, .inl (SqL.of h), by rw [t.len]; exact q _ _ _ r2 (.int _) rfl⟩
  · cases hd with
    | tup n h t => exact ⟨_, _, rfl, .inr (SqT.of h), by rw [t.len]; exact q _ _ _ r2 (.int _) rfl⟩
end
/-! ### a new list, by its place -/
def GvN (K : PySem.W.Frag) (E : En) (te : TE) (σ : L2.St) (H : Hp) (G : List PyData → Prop) : Prop := ∀ H1, E.R H H1 → ∀ Q : VK, (∀ q xs ds H2, E.R H1 H2 → H2 q = none → DaAll K E.av H2 xs ds → G ds → Q (.ref q) (upd H2 q (.lst xs))) → te σ H1 Q
section
variable {K : PySem.W.Frag} {E : En} {H : Hp} {σ : L2.St} {ta tb : TE} {tA : TA}
theorem gn_lst {Gs : List PyData → Prop} (h : GvA K E tA σ H Gs) (l : ∀ ds, Gs ds → ds.length ≤ 1000) : GvN K E (tLst tA) σ H Gs := fun H1 r Q q =>
  h H1 r _ fun xs ds H2 r2 hds g => ⟨by rw [hds.len]; exact Nat.le_of_lt (small1000 (l ds g)), fun p np => q p xs ds H2 r2 np hds g⟩
theorem gn_cat {A B : List PyData → Prop} (ha : Gv K E ta σ H (fun d => ∃ ds, d = .list ds ∧ A ds)) (hb : Gv K E tb σ H (fun d => ∃ ds, d = .list ds ∧ B ds)) (l : ∀ ds es, A ds → B es → ds.length + es.length ≤ 1000) : GvN K E (tOp rCat ta tb) σ H (fun z => ∃ ds es, z = ds ++ es ∧ A ds ∧ B es) := fun H1 r Q q =>
  ha H1 r _ fun x d H2 r2 hd g1 => hb H2 (r.tr r2) _ fun y e H3 r3 he g2 => by
    obtain ⟨ds, rfl, g1⟩ := g1
    obtain ⟨es, rfl, g2⟩ := g2
    have hd := hd.r r3
    cases hd with
    | lst n h t =>
      cases he with
      | lst n2 h2 t2 => exact ⟨_, _, _, _, rfl, rfl, h, h2, by rw [t.len, t2.len]; exact Nat.le_of_lt (small1000 (l ds es g1 g2)), fun p np => q p _ _ H3 (r2.tr r3) np (t.app t2) ⟨ds, es, rfl, g1, g2⟩⟩
theorem gs_asgN {i : Nat} {te : TE} {tz : TS} {D : Ends} {G : List PyData → Prop} (h : GvN K E te σ H G) (hi : E.I H) (k : ∀ q xs ds H1, E.R H H1 → H1 q = none → DaAll K E.av H1 xs ds → G ds → tz D (σ.set i (some (.ref q))) (upd H1 q (.lst xs))) : tSeq (tAsg te (gName i)) tz D σ H :=
  h H (En.rf hi) _ fun q xs ds H1 r n hd g => k q xs ds H1 r n hd g
end
/-! ### statements -/
section
variable {K : PySem.W.Frag} {E : En} {H : Hp} {σ : L2.St} {te : TE} {t : TT} {tz tu tw : TS} {D : Ends} {G : PyData → Prop}
theorem gs_asg {i : Nat} (h : Gv K E te σ H G) (hi : E.I H) (k : ∀ x d H1, E.R H H1 → Da K E.av H1 x d → G d → tz D (σ.set i (some x)) H1) : tSeq (tAsg te (gName i)) tz D σ H := h H (En.rf hi) _ fun x d H1 r hd g => k x d H1 r hd g
theorem gs_ret (h : Gv K E te σ H G) (hi : E.I H) (k : ∀ x d H1, E.R H H1 → Da K E.av H1 x d → G d → D.rt x H1) : tRet te D σ H := h H (En.rf hi) _ fun x d H1 r hd g => k x d H1 r hd g
end
end Kin
namespace Kin
open PySem PySem.Spec PyProof.Rows L2 RZ
def topS (i : Nat) : Stmt := PySem.Challenge.pw_swiftkin_k01_what_is_a_worth.main.body.getD i (.Pass ⟨0, 0, 0, 0⟩)
section
variable {P : Program} {w : World} {K : PySem.W.Frag} {mg : Str → Option Value} {base : Heap}
/-! _law_blend -/
abbrev s_law_blend : Stmt := topS 11
theorem sc_law_blend : FnScope ["cell", "at", "one", "two", "three"] ["cell", "at"] (defScope s_law_blend) := ⟨rfl, rfl, rfl, by decide +kernel, rfl, by decide +kernel, by decide +kernel⟩
def sp_law_blend : Sp := fun vs H Q _ => ∃ cell at' : Int, vs = [.int cell, .int at'] ∧ 0 ≤ at' ∧ ∀ r : Int, 0 ≤ r → Q (.int r) H
theorem ok_law_blend (F : Def K mg "_law_blend" ["cell", "at"] s_law_blend) : Cl P w K mg base 1 "_law_blend" sp_law_blend := by
  refine F.cl sc_law_blend (fun vs H Q E h => ?_) (fun f cdv A outer s H vs Q E hr h => ?_)
  · obtain ⟨x, y, rfl, _⟩ := h
    rfl
  obtain ⟨cell, at', rfl, h0, q⟩ := h
  have nd := sc_law_blend.nd
  refine ⟨_, (pss_cons (ps_if (pt_cmpR op_ge (pv 0) (pe_op op_pow pe_int pe_int) (by rfl)) (pss_one (ps_ret (pv 0))) pss_nil)
    (pss_cons (ps_set (i := 2) nd rfl (Or.inl rfl) (pe_op op_mod (pe_op op_add (pe_op op_add (pe_op op_mul (pe_op op_mod (pv 0) pe_int) pe_int) (pe_op op_mul (pv 1) pe_int)) pe_int) pe_int))
    (pss_cons (ps_set (i := 3) nd rfl (Or.inl rfl) (pe_op op_mod (pe_op op_add (pe_op op_add (pe_op op_mul (pv 2) (pv 2)) (pe_op op_mul (pv 1) pe_int)) (pe_op op_mod (pv 0) pe_int)) pe_int))
    (pss_cons (ps_set (i := 4) nd rfl (Or.inl rfl) (pe_op op_mod (pe_op op_add (pe_op op_add (pe_op op_mul (pv 3) (pv 3)) (pe_op op_mul (pv 2) pe_int)) pe_int) pe_int))
    (pss_one (ps_ret (pe_op op_add (pe_op op_mul (pe_op op_add (pe_op op_mul (pv 2) pe_int) (pv 3)) pe_int) (pv 4)))))))), ?_⟩
  refine ⟨_, rfl, _, _, rfl, rfl, ⟨by decide, by decide, by decide⟩, _, _, rfl, rfl, _, rfl, ite2 (fun c => ?_) (fun c => ?_)⟩
  · exact ⟨_, rfl, q _ (by
      have e : (10 : Int) ^ Int.toNat 18 = 1000000000000000000 := by decide
      have := of_decide_eq_true c
      omega)⟩
  · have a1 : 0 ≤ cell % 998244353 := Int.emod_nonneg _ (by decide)
    have a2 : cell % 998244353 < 998244353 := Int.emod_lt_of_pos _ (by decide)
    refine ⟨_, rfl, _, _, rfl, rfl, (by show (0 : Int) < 998244353; decide), _, _, rfl, rfl, .inl ⟨by omega, by omega⟩, _, rfl, _, _, rfl, rfl, .inr ⟨by decide, by decide⟩, _, _, rfl, rfl, _, _, rfl, rfl, _, _, rfl, rfl, (by show (0 : Int) < 2147483399; decide), ?_⟩
    generalize hone : (cell % 998244353 * 40692 + at' * 69621 + 1009) % 2147483399 = one
    have b1 : 0 ≤ one := by rw [← hone]; exact Int.emod_nonneg _ (by decide)
    have b2 : one < 2147483399 := by rw [← hone]; exact Int.emod_lt_of_pos _ (by decide)
    refine ⟨_, rfl, _, rfl, _, _, rfl, rfl, .inl ⟨by omega, by omega⟩, _, rfl, _, _, rfl, rfl, .inr ⟨by decide, by decide⟩, _, _, rfl, rfl, _, rfl, _, _, rfl, rfl, (by show (0 : Int) < 131071; decide), _, _, rfl, rfl, _, _, rfl, rfl, (by show (0 : Int) < 2147483647; decide), ?_⟩
    generalize htwo : (one * one + at' * 48271 + cell % 131071) % 2147483647 = two
    have c1 : 0 ≤ two := by rw [← htwo]; exact Int.emod_nonneg _ (by decide)
    have c2 : two < 2147483647 := by rw [← htwo]; exact Int.emod_lt_of_pos _ (by decide)
    refine ⟨_, rfl, _, rfl, _, _, rfl, rfl, .inl ⟨by omega, by omega⟩, _, rfl, _, _, rfl, rfl, .inl ⟨by omega, by omega⟩, _, _, rfl, rfl, _, _, rfl, rfl, _, _, rfl, rfl, (by show (0 : Int) < 2147483629; decide), ?_⟩
    generalize hthree : (two * two + one * 17 + 3) % 2147483629 = three
    have d1 : 0 ≤ three := by rw [← hthree]; exact Int.emod_nonneg _ (by decide)
    refine ⟨_, rfl, _, _, rfl, rfl, .inl ⟨by omega, by omega⟩, _, rfl, _, _, rfl, rfl, _, _, rfl, rfl, .inr ⟨by decide, by decide⟩, _, rfl, _, _, rfl, rfl, ?_⟩
    exact q _ (by omega)
/-! _law_pot -/
abbrev s_law_pot : Stmt := topS 12
theorem sc_law_pot : FnScope ["script", "cells", "k", "cell"] ["script"] (defScope s_law_pot) := ⟨rfl, rfl, rfl, by decide +kernel, rfl, by decide +kernel, by decide +kernel⟩
def sp_law_pot (K : PySem.W.Frag) : Sp := fun vs H Q _ => ∃ (a : Addr) (ns : List Int), vs = [.ref a] ∧ SqL K H a (ns.map V.int) ∧ ns.length ≤ 63 ∧ ∀ p c ms H', Same H H' → H p = none → H c = none → Pot H' p c ms → Q (.ref p) H'
theorem ok_law_pot (F : Def K mg "_law_pot" ["script"] s_law_pot) (m_list : mg "list" = none) (m_enumerate : mg "enumerate" = none) : Cl P w K mg base 1 "_law_pot" (sp_law_pot K) := by
  refine F.cl sc_law_pot (fun vs H Q E h => ?_) (fun f cdv A outer s H vs Q E hr h => ?_)
  · obtain ⟨x, y, rfl, _⟩ := h
    rfl
  obtain ⟨a, ns, rfl, hS, hl, q⟩ := h
  have nd := sc_law_pot.nd
  refine ⟨_, (pss_cons (ps_set (i := 1) nd rfl (Or.inl rfl) (pe_callTy (call_listK K) (by rfl) m_list (by decide +kernel) (pa_cons (pe_slice (sl_listK K) (pv 0) po_none (po_some pe_int)) pa_nil)))
    (pss_cons (ps_for PassesOwn.never rfl (pi_enumK K (by rfl) m_enumerate (pa_cons (pe_slice (sl_listK K) (pv 0) (po_some pe_int) (po_some pe_int)) pa_nil)) (pg_tupK K 2 rfl (pgs_cons (pg_name (i := 2) nd rfl (Or.inl rfl)) (pgs_cons (pg_name (i := 3) nd rfl (Or.inl rfl)) pgs_nil))) (pss_one (ps_asg (pe_op op_add (pe_ix (ix_listK K) (pv 1) (pe_op op_mod (pv 2) pe_int) (fun _ _ => rfl)) (pv 3)) (pg_sub (pv 1) (pe_op op_mod (pv 2) pe_int) set_list))))
    (pss_one (ps_ret (pe_lst (pa_cons (pv 1) (pa_cons pe_int (pa_cons pe_int pa_nil)))))))), ?_⟩
  have e1 : cutV (ns.map V.int) none (some 12) = (ns.take 12).map V.int := by rw [List.map_take]; exact cut_to _ 12
  have e2 : cutV (ns.map V.int) (some 12) (some 63) = (ns.drop 12).map V.int := by
    unfold cutV
    have q1 := HT.sIx_nat (ns.map V.int).length 0 12
    have q2 := HT.sIx_nat (ns.map V.int).length (ns.map V.int).length 63
    rw [show ((12 : Nat) : Int) = 12 from rfl] at q1
    rw [show ((63 : Nat) : Int) = 63 from rfl] at q2
    rw [q1, q2, List.length_map, Nat.min_eq_right hl, List.map_drop]
    by_cases h : 12 ≤ ns.length
    · rw [Nat.min_eq_left h]
      exact List.take_of_length_le (by rw [List.length_drop, List.length_map]; omega)
    · rw [Nat.min_eq_right (by omega), Nat.sub_self, List.take_zero]
      exact (List.drop_of_length_le (by rw [List.length_map]; omega)).symm
  generalize hms : ns.take 12 = ms at e1
  generalize hzs : ns.drop 12 = zs at e2
  have hlen : zs.length ≠ 0 → ms.length = 12 := fun h => by
    rw [← hzs, List.length_drop] at h
    rw [← hms, List.length_take]
    omega
  refine ⟨_, rfl, 12, rfl, a, _, rfl, hS, fun d nd => ?_⟩
  rw [e1]
  refine ⟨d, _, rfl, .inl (SqL.of upd_same), fun c nc => ?_⟩
  have g1 : Same H (upd (upd H d (.lst (ms.map V.int))) c (.lst (ms.map V.int))) := (same_new nd).trans (same_new nc)
  refine ⟨_, rfl, 12, rfl, 63, rfl, a, ns.map V.int, rfl, g1.seq hS, fun e ne => ?_⟩
  rw [e2]
  have nec : c ≠ e := fun q => by
    rw [← q, upd_same] at ne
    cases ne
  have ncH : H c = none := (same_new nd).free nc
  refine ⟨e, _, rfl, SqL.of upd_same, for_enum (xs := zs.map V.int) (fun i σ H' => ∃ (y2 y3 : Option V) (ks : List Int), σ = [some (.ref a), some (.ref c), y2, y3] ∧ Same H H' ∧ H' e = some (.lst (zs.map V.int)) ∧ H' c = some (.lst (ks.map V.int)) ∧ ks.length = ms.length) ?_ ?_ ?_ ?_⟩
  · refine ⟨none, none, ms, rfl, g1.trans (same_new ne), upd_same, ?_, rfl⟩
    rw [upd_ne nec, upd_same]
  · rintro i σ H' hi ⟨y2, y3, ks, rfl, sm, he, hc, hk⟩
    exact SqL.of he
  · rintro i x σ H' T hx ⟨y2, y3, ks, rfl, sm, he, hc, hk⟩ nT
    obtain ⟨z, hz, rfl⟩ : ∃ z, zs[i]? = some z ∧ x = .int z := by
      rw [List.getElem?_map] at hx
      cases e : zs[i]? with
      | none => rw [e] at hx; cases hx
      | some z => rw [e] at hx; exact ⟨z, rfl, (Option.some.inj hx).symm⟩
    have hi := (List.getElem?_eq_some_iff.mp hz).1
    have h12 : ks.length = 12 := hk.trans (hlen (by omega))
    have nTc : c ≠ T := ne_of_none hc nT
    have nTe : e ≠ T := ne_of_none he nT
    obtain ⟨j, hj, ej⟩ : ∃ j : Nat, j < ks.length ∧ (i : Int) % 12 = (j : Int) := ⟨((i : Int) % 12).toNat, by omega, by omega⟩
    have gj : (ks.map V.int)[j]? = some (.int ks[j]) := by rw [List.getElem?_map, List.getElem?_eq_getElem hj]; rfl
    refine ⟨T, _, rfl, SqT.of upd_same, rfl, _, _, rfl, _, _, rfl, rfl, ?_⟩
    refine ⟨_, rfl, _, rfl, _, _, rfl, rfl, (by show (0 : Int) < 12; decide), c, _, _, _, rfl, rfl, SqL.of (by rw [upd_ne nTc]; exact hc), at_of ej gj, _, rfl, _, _, rfl, rfl, ?_⟩
    refine ⟨_, rfl, _, rfl, _, _, rfl, rfl, (by show (0 : Int) < 12; decide), c, _, _, j, rfl, rfl, (by rw [upd_ne nTc]; exact hc), (by rw [ej]; exact Evl.ixN_nat (by rw [List.length_map]; exact hj)), ?_⟩
    refine ⟨some (.int i), some (.int z), ks.set j (ks[j] + z), rfl, same_mut (sm.trans (same_new nT)) ncH, ?_, ?_, by rw [List.length_set]; exact hk⟩
    · rw [upd_ne nec.symm, upd_ne nTe]
      exact he
    · rw [upd_same, List.map_set]
  · rintro σ H' ⟨y2, y3, ks, rfl, sm, he, hc, hk⟩
    refine ⟨_, rfl, (by show 3 ≤ sizeLine; decide), fun p np => ?_⟩
    exact q p c ks _ (sm.trans (same_new np)) (sm.free np) ncH ⟨0, 0, upd_same, by rw [upd_ne (ne_of_none hc np)]; exact hc, Int.le_refl 0, Int.le_refl 0⟩
/-! _law_pick -/
abbrev s_law_pick : Stmt := topS 13
theorem sc_law_pick : FnScope ["pot", "many", "at", "cell", "found"] ["pot", "many"] (defScope s_law_pick) := ⟨rfl, rfl, rfl, by decide +kernel, rfl, by decide +kernel, by decide +kernel⟩

def Mny (m : Int) : Prop := 0 < m ∧ m < 2 ^ 200
def sp_law_pick : Sp := fun vs H Q _ => ∃ (p c : Addr) (ns : List Int) (many : Int), vs = [.ref p, .int many] ∧ Pot H p c ns ∧ Mny many ∧ ∀ (r : Int) H', 0 ≤ r → r < many → Go p c ns H H' → Q (.int r) H'
theorem ok_law_pick (F : Def K mg "_law_pick" ["pot", "many"] s_law_pick) (m_len : mg "len" = none) (c_law_blend : Cl P w K mg base 1 "_law_blend" sp_law_blend) : Cl P w K mg base 2 "_law_pick" sp_law_pick := by
  refine F.cl sc_law_pick (fun vs H Q E h => ?_) (fun f cdv A outer s H vs Q E hr h => ?_)
  · obtain ⟨p, c, ns, m, rfl, _⟩ := h
    rfl
  obtain ⟨p, c, ns, m, rfl, hP, hm, q⟩ := h
  have nd := sc_law_pick.nd
  refine ⟨_, (pss_cut' (ps_if (pt_cmpR op_lt (pe_ix (ix_listK K) (pv 0) pe_int (fun _ _ => rfl)) (pv 1) (by rfl)) (pss_cons (ps_set (i := 2) nd rfl (Or.inl rfl) (pe_ix (ix_listK K) (pv 0) pe_int (fun _ _ => rfl)))
    (pss_cons (ps_set (i := 3) nd rfl (Or.inl rfl) (pe_op op_mul pe_int (pv 2)))
    (pss_cut' (ps_if (pt_cmpR op_lt (pv 2) (pe_callB (call_lenK K) (by rfl) m_len PySem.boot_len (pa_cons (pe_ix (ix_listK K) (pv 0) pe_int (fun _ _ => rfl)) pa_nil)) (by rfl)) (pss_one (ps_set (i := 3) nd rfl (Or.inl rfl) (pe_ix (ix_listK K) (pe_ix (ix_listK K) (pv 0) pe_int (fun _ _ => rfl)) (pv 2) (fun _ _ => rfl)))) (pss_one (ps_if (pt_cmpR (op_neK K hr.units) (pe_ix (ix_listK K) (pv 0) pe_int (fun _ _ => rfl)) (pe_lst pa_nil) (by rfl)) (pss_one (ps_set (i := 3) nd rfl (Or.inl rfl) (pe_op op_mod (pe_ix (ix_listK K) (pe_ix (ix_listK K) (pv 0) pe_int (fun _ _ => rfl)) (pe_op op_mod (pe_op op_add (pe_op op_mul (pv 2) pe_int) pe_int) (pe_callB (call_lenK K) (by rfl) m_len PySem.boot_len (pa_cons (pe_ix (ix_listK K) (pv 0) pe_int (fun _ _ => rfl)) pa_nil))) (fun _ _ => rfl)) (pe_op op_add (pe_op op_pow pe_int pe_int) (pe_op op_mul pe_int (pv 2)))))) pss_nil)))
    (pss_cons (ps_asg (pe_op op_add (pv 2) pe_int) (pg_sub (pv 0) pe_int set_list))
    (pss_one (ps_asg (pe_cl c_law_blend hr (by decide) (by rfl) (pa_cons (pv 3) (pa_cons (pv 2) pa_nil))) (pg_sub (pv 0) pe_int set_list))))))) pss_nil)
    (pss_cons (ps_set (i := 4) nd rfl (Or.inl rfl) (pe_op op_mod (pe_ix (ix_listK K) (pv 0) pe_int (fun _ _ => rfl)) (pv 1)))
    (pss_cons (ps_asg (pe_op op_fdivW (pe_ix (ix_listK K) (pv 0) pe_int (fun _ _ => rfl)) (pv 1)) (pg_sub (pv 0) pe_int set_list))
    (pss_one (ps_ret (pv 4)))))), ?_⟩
  obtain ⟨a, r, hp⟩ := id hP
  -- behind the first if: the pot's third is r, whatever it is
  refine ⟨fun σ H' => ∃ (y2 y3 : Option V), σ = [some (.ref p), some (.int m), y2, y3, none] ∧ Go p c ns H H', ?_, ?_⟩
  · refine ⟨_, rfl, p, _, _, _, rfl, rfl, SqL.of hp.hp, at_of (j := 2) rfl rfl, _, rfl, _, _, rfl, rfl, _, rfl, ite2 (fun e => ?_) (fun e => ?_)⟩
    · refine ⟨_, rfl, p, _, _, _, rfl, rfl, SqL.of hp.hp, at_of (j := 1) rfl rfl, _, rfl, _, _, rfl, rfl, .inl ⟨by decide, by decide⟩, ?_⟩
      -- cell, whatever it is
      refine ⟨fun σ H' => ∃ (z : Int), σ = [some (.ref p), some (.int m), some (.int a), some (.int z), none] ∧ Same H H', ?_, ?_⟩
      · refine ⟨_, rfl, _, rfl, p, _, _, _, rfl, rfl, SqL.of hp.hp, at_of (j := 0) rfl rfl, c, _, rfl, .inl (SqL.of hp.hc), _, _, rfl, rfl, _, rfl, ite2 (fun e2 => ?_) (fun e2 => ?_)⟩
        · have e3 := of_decide_eq_true e2
          rw [List.length_map] at e3
          have h0 := hp.ha
          obtain ⟨j, hj, ej⟩ : ∃ j : Nat, j < ns.length ∧ a = (j : Int) := ⟨a.toNat, by omega, by omega⟩
          refine ⟨_, rfl, p, _, _, _, rfl, rfl, SqL.of hp.hp, at_of (j := 0) rfl rfl, _, rfl, c, _, _, .int ns[j], rfl, rfl, SqL.of hp.hc, at_of ej (by rw [List.getElem?_map, List.getElem?_eq_getElem hj]; rfl), ?_⟩
          exact ⟨_, rfl, Same.refl H⟩
        · refine ⟨_, rfl, p, _, _, _, rfl, rfl, SqL.of hp.hp, at_of (j := 0) rfl rfl, (by show 0 ≤ sizeLine; decide), fun l nl => ?_⟩
          have sl : Same H (upd H l (.lst [])) := same_new nl
          refine ⟨.list (ns.map PyData.int), .list [], .lst (SqL.of (sl _ _ hp.hc)) (dp_ints ns), .lst (SqL.of upd_same) .nil, shaped_ints ns, by decide +kernel, _, rfl, ite2 (fun e3 => ?_) (fun e3 => ?_)⟩
          · have h0 := hp.ha
            have hne : ns ≠ [] := fun z => by
              rw [z] at e3
              exact absurd e3 (by decide)
            have hpos : 0 < ns.length := List.length_pos_iff.mpr hne
            have hp2 : PotAt (upd H l (.lst [])) p c ns a r := ⟨sl _ _ hp.hp, sl _ _ hp.hc, hp.ha, hp.hr⟩
            obtain ⟨j, hj, ej⟩ : ∃ j : Nat, j < ns.length ∧ (a * 7 + 1) % (((ns.map V.int).length : Nat) : Int) = (j : Int) := by
              rw [List.length_map]
              have g1 := Int.emod_nonneg (a * 7 + 1) (show ((ns.length : Nat) : Int) ≠ 0 by omega)
              have g2 := Int.emod_lt_of_pos (a * 7 + 1) (show (0 : Int) < ((ns.length : Nat) : Int) by omega)
              exact ⟨((a * 7 + 1) % (ns.length : Int)).toNat, by omega, by omega⟩
            refine ⟨_, rfl, p, _, _, _, rfl, rfl, SqL.of hp2.hp, at_of (j := 0) rfl rfl, _, rfl, _, _, rfl, rfl, .inr ⟨by decide, by decide⟩, _, _, rfl, rfl, ?_⟩
            refine ⟨_, rfl, p, _, _, _, rfl, rfl, SqL.of hp2.hp, at_of (j := 0) rfl rfl, c, _, rfl, .inl (SqL.of hp2.hc), _, _, rfl, rfl, (by show (0 : Int) < (((ns.map V.int).length : Nat) : Int); rw [List.length_map]; omega), ?_⟩
            refine ⟨c, _, _, .int ns[j], rfl, rfl, SqL.of hp2.hc, at_of ej (by rw [List.getElem?_map, List.getElem?_eq_getElem hj]; rfl), ?_⟩
            refine ⟨_, _, rfl, rfl, ⟨by decide, by decide, by decide⟩, _, rfl, _, _, rfl, rfl, .inl ⟨by decide, by decide⟩, _, _, rfl, rfl, _, _, rfl, rfl, ?_, ?_⟩
            · show (0 : Int) < 10 ^ Int.toNat 17 + 3 * a
              have e : (10 : Int) ^ Int.toNat 17 = 100000000000000000 := by decide
              omega
            · exact ⟨_, rfl, sl⟩
          · exact ⟨_, rfl, sl⟩
      · rintro σ H' ⟨z, rfl, sm⟩
        have hp' : PotAt H' p c ns a r := ⟨sm _ _ hp.hp, sm _ _ hp.hc, hp.ha, hp.hr⟩
        refine ⟨_, rfl, _, _, rfl, rfl, _, rfl, p, _, _, 1, rfl, rfl, hp'.hp, rfl, ?_⟩
        refine ⟨_, rfl, _, rfl, z, a, rfl, hp.ha, fun r2 h2 => ?_⟩
        refine ⟨_, rfl, p, _, _, 2, rfl, rfl, upd_same, rfl, ?_⟩
        rw [upd_upd]
        exact ⟨_, _, rfl, ((Go.refl hP).same sm).trans ⟨⟨a, r, hp'⟩, Fp.at, _, _, hp'.upd (by have := hp.ha; omega) h2⟩⟩
    · exact ⟨none, none, rfl, Go.refl hP⟩
  · rintro σ H' ⟨y2, y3, rfl, G⟩
    obtain ⟨a', r', hp'⟩ := id G.pot
    refine ⟨_, rfl, p, _, _, _, rfl, rfl, SqL.of hp'.hp, at_of (j := 2) rfl rfl, _, rfl, _, _, rfl, rfl, hm.1, ?_⟩
    refine ⟨_, rfl, p, _, _, _, rfl, rfl, SqL.of hp'.hp, at_of (j := 2) rfl rfl, _, rfl, _, _, rfl, rfl, wide_div (b := 200) hm.1 (by have := hm.1; have := hm.2; omega) (by decide) (by decide), ?_⟩
    refine ⟨_, rfl, p, _, _, 2, rfl, rfl, hp'.hp, rfl, ?_⟩
    exact ⟨_, rfl, q _ _ (Int.emod_nonneg _ (by have := hm.1; omega)) (Int.emod_lt_of_pos _ hm.1) (G.trans ⟨G.pot, Fp.at, _, _, hp'.upd hp'.ha (Int.ediv_nonneg hp'.hr (by have := hm.1; omega))⟩)⟩
end
end Kin
namespace Kin
open PySem PySem.Spec PyProof.Rows L2 RZ
section
variable {P : Program} {w : World} {K : PySem.W.Frag} {mg : Str → Option Value} {base : Heap}
/-! _law_order -/
abbrev s_law_order : Stmt := topS 15
theorem sc_law_order : FnScope ["pot", "many", "order", "k"] ["pot", "many"] (defScope s_law_order) := ⟨rfl, rfl, rfl, by decide +kernel, rfl, by decide +kernel, by decide +kernel⟩

theorem perm_ins {ks : List Nat} {n : Nat} (r : Nat) (h : ks.Perm (List.range n)) : (ks.take r ++ [n] ++ ks.drop r).Perm (List.range (n + 1)) := by
  rw [List.range_succ]
  have h1 : (ks.take r ++ [n] ++ ks.drop r).Perm ([n] ++ (ks.take r ++ ks.drop r)) := by
    rw [← List.append_assoc]
    exact List.Perm.append_right _ List.perm_append_comm
  rw [List.take_append_drop] at h1
  exact h1.trans ((List.Perm.append_left [n] h).trans List.perm_append_comm)
def sp_law_order : Sp := fun vs H Q _ => ∃ (p c : Addr) (ns : List Int) (n : Nat), vs = [.ref p, nV n] ∧ Pot H p c ns ∧ n ≤ 1000 ∧ ∀ (l : Addr) (ks : List Nat) H', Go p c ns H H' → H l = none → H' l = some (.lst (ks.map nV)) → ks.Perm (List.range n) → Q (.ref l) H'
theorem mny {m : Int} (h : 0 < m) (h2 : m ≤ 100000) : Mny m := ⟨h, by omega⟩
theorem ok_law_order (F : Def K mg "_law_order" ["pot", "many"] s_law_order) (m_range : mg "range" = none) (c_law_pick : Cl P w K mg base 2 "_law_pick" sp_law_pick) : Cl P w K mg base 3 "_law_order" sp_law_order := by
  refine F.cl sc_law_order (fun vs H Q E h => ?_) (fun f cdv A outer s H vs Q E hr h => ?_)
  · obtain ⟨p, c, ns, m, rfl, _⟩ := h
    rfl
  obtain ⟨p, c, ns, m, rfl, hP, hm, q⟩ := h
  have nd := sc_law_order.nd
  refine ⟨_, (pss_cons (ps_set (i := 2) nd rfl (Or.inl rfl) (pe_lst pa_nil))
    (pss_cons (ps_for PassesOwn.never rfl (pi_range1 (by rfl) m_range (pa_cons (pv 1) pa_nil)) (pg_name (i := 3) nd rfl (Or.inl rfl)) (pss_one (ps_expr (pe_bmK K PySem.F.plainAttrs_list PySem.F.slot_list_insert PySem.F.type_list_insert mt_insert (pv 2) (pa_cons (pe_cl c_law_pick hr (by decide) (by rfl) (pa_cons (pv 0) (pa_cons (pe_op op_add (pv 3) pe_int) pa_nil))) (pa_cons (pv 3) pa_nil))))))
    (pss_one (ps_ret (pv 2))))), ?_⟩
  refine ⟨(by show 0 ≤ sizeLine; decide), fun l nl => ?_⟩
  refine ⟨_, rfl, _, rfl, by omega, by omega, for_range (lo := 0) (n := (m : Int).toNat) (fun i σ H' => ∃ (y : Option V) (ks : List Nat), σ = [some (.ref p), some (nV m), some (.ref l), y] ∧ Go p c ns H H' ∧ H' l = some (.lst (ks.map nV)) ∧ ks.Perm (List.range i)) ?_ ?_ ?_⟩
  · exact ⟨none, [], rfl, (Go.refl hP).new nl, upd_same, List.Perm.refl _⟩
  · rintro i σ H' hi ⟨y, ks, rfl, G, hl, hp⟩
    have hlen : ks.length = i := by rw [hp.length_eq, List.length_range]
    refine ⟨_, rfl, .inl ⟨rfl, _, SqL.of hl⟩, _, rfl, _, rfl, _, _, rfl, rfl, p, c, ns, _, rfl, G.pot, mny (by omega) (by omega), fun r H2 r0 r1 G2 => ?_⟩
    have hl2 : H2 l = some (.lst (ks.map nV)) := G2.get (hP.nep nl) hl
    refine ⟨_, rfl, l, _, r, _, rfl, rfl, hl2, ?_, r0, by omega, ?_⟩
    · rw [List.length_map, hlen]
      exact Nat.lt_of_lt_of_le (show i < 1000 by omega) (by decide)
    · refine ⟨some (.int ((0 : Int) + (i : Int))), ks.take r.toNat ++ [i] ++ ks.drop r.toNat, rfl, (G.trans G2).mut nl, ?_, perm_ins _ hp⟩
      rw [upd_same, List.map_append, List.map_append, List.map_take, List.map_drop]
      show some (HO.lst (_ ++ [V.int (0 + (i : Int))] ++ _)) = some (HO.lst (_ ++ [V.int (i : Int)] ++ _))
      rw [Int.zero_add]
  · rintro σ H' ⟨y, ks, rfl, G, hl, hp⟩
    exact ⟨_, rfl, q l ks H' G nl hl hp⟩
/-! _law_letters -/
abbrev s_law_letters : Stmt := topS 16
theorem sc_law_letters : FnScope ["pot", "many", "small", "rest", "spot", "turn", "size", "found", "k", "part", "at"] ["pot", "many"] (defScope s_law_letters) := ⟨rfl, rfl, rfl, by decide +kernel, rfl, by decide +kernel, by decide +kernel⟩
def sp_law_letters : Sp := fun vs H Q _ => ∃ (p c : Addr) (ns : List Int) (n : Nat), vs = [.ref p, nV n] ∧ Pot H p c ns ∧ n ≤ 26 ∧ ∀ (l : Addr) (xs : List Str) H', Go p c ns H H' → H l = none → H' l = some (.lst (xs.map V.str)) → xs.length = n → xs.Nodup → (∀ x ∈ xs, IsName x) → Q (.ref l) H'
theorem spot_at {sp : Nat} (h : sp < 3) (n : Nat) : atI [V.int 0, V.int (n : Int), V.int ((n : Int) / 2)] (sp : Int) = some (V.int ((spotL sp n : Nat) : Int)) := by
  refine atI_nat ?_
  match sp, h with
  | 0, _ => rfl
  | 1, _ => rfl
  | 2, _ => rfl
theorem ok_law_letters (F : Def K mg "_law_letters" ["pot", "many"] s_law_letters) (m_range : mg "range" = none) (m_len : mg "len" = none) (c_law_pick : Cl P w K mg base 2 "_law_pick" sp_law_pick) : Cl P w K mg base 3 "_law_letters" sp_law_letters := by
  refine F.cl sc_law_letters (fun vs H Q E h => ?_) (fun f cdv A outer s H vs Q E hr h => ?_)
  · obtain ⟨p, c, ns, m, rfl, _⟩ := h
    rfl
  obtain ⟨p, c, ns, m, rfl, hP, hm, q⟩ := h
  have nd := sc_law_letters.nd
  refine ⟨_, (pss_cons (ps_set (i := 2) nd rfl (Or.inr rfl) pe_str)
    (pss_cons (ps_set (i := 3) nd rfl (Or.inl rfl) (pe_joinK K pe_str (pe_lc (own := [("k", 8)]) (g := gName 8) (tt := tYes) (by rfl) nd (pi_range1 (by rfl) m_range (pa_cons pe_int pa_nil)) (blkOk_by (own := [("k", 8)]) (N := ["pot", "many", "small", "rest", "spot", "turn", "size", "found", "k", "part", "at"]) (sc := defScope s_law_letters) (by decide +kernel)) (fun _ _ _ _ _ => (pg_name (i := 8) nd rfl (Or.inl rfl))) (fun _ _ _ _ _ => pts_nil) (fun _ _ _ _ _ => (pe_ix ix_str (pv 2) (pe_cl c_law_pick hr (by decide) (by rfl) (pa_cons (pv 0) (pa_cons pe_int pa_nil))) (fun _ _ => rfl))))))
    (pss_cons (ps_set (i := 4) nd rfl (Or.inl rfl) (pe_cl c_law_pick hr (by decide) (by rfl) (pa_cons (pv 0) (pa_cons pe_int pa_nil))))
    (pss_cons (ps_set (i := 5) nd rfl (Or.inl rfl) (pe_cl c_law_pick hr (by decide) (by rfl) (pa_cons (pv 0) (pa_cons pe_int pa_nil))))
    (pss_cons (ps_set (i := 6) nd rfl (Or.inl rfl) (pe_cl c_law_pick hr (by decide) (by rfl) (pa_cons (pv 0) (pa_cons pe_int pa_nil))))
    (pss_cons (ps_set (i := 7) nd rfl (Or.inl rfl) (pe_lst pa_nil))
    (pss_cons (ps_for PassesOwn.never rfl (pi_range1 (by rfl) m_range (pa_cons (pv 1) pa_nil)) (pg_name (i := 8) nd rfl (Or.inl rfl)) (pss_cons (ps_set (i := 9) nd rfl (Or.inl rfl) (pe_slice sl_str (pv 3) po_none (po_some (pe_op op_mod (pe_op op_add (pv 6) (pe_op op_mul (pv 8) (pe_op op_mod (pv 4) pe_int))) pe_int))))
    (pss_cons (ps_set (i := 10) nd rfl (Or.inl rfl) (pe_ix (ix_listK K) (pe_lst (pa_cons pe_int (pa_cons (pe_callB call_len_str (by rfl) m_len PySem.boot_len (pa_cons (pv 9) pa_nil)) (pa_cons (pe_op op_fdivW (pe_callB call_len_str (by rfl) m_len PySem.boot_len (pa_cons (pv 9) pa_nil)) pe_int) pa_nil)))) (pv 4) (fun _ _ => rfl)))
    (pss_one (ps_expr (pe_bmK K PySem.F.plainAttrs_list PySem.F.slot_list_append PySem.F.type_list_append mt_append (pv 7) (pa_cons (pe_op op_add_str (pe_op op_add_str (pe_slice sl_str (pv 9) po_none (po_some (pv 10))) (pe_ix ix_str (pv 2) (pe_op op_mod (pe_op op_add (pv 5) (pe_op op_mul pe_int (pv 8))) pe_int) (fun _ _ => rfl))) (pe_slice sl_str (pv 9) (po_some (pv 10)) po_none)) pa_nil)))))))
    (pss_one (ps_ret (pv 7)))))))))), ?_⟩
  rw [small_eq, show Str.ofString "" = mk [] by decide +kernel]
  -- rest
  refine ⟨⟨_, rfl⟩, 7, rfl, by decide, by decide, fun D nD => lc_range (lo := 0) (n := 7) (fun i H' => ∃ cs : List Nat, Go p c ns H H' ∧ H' D = some (.lst ((cs.map fun x => mk [x]).map V.str)) ∧ cs.length = i ∧ ∀ x ∈ cs, 97 ≤ x ∧ x ≤ 122) ?_ ?_ ?_⟩
  · exact ⟨[], (Go.refl hP).new nD, upd_same, rfl, fun x hx => nomatch hx⟩
  · rintro i H' hi ⟨cs, G, hD, hl, hc⟩
    refine ⟨rfl, ?_⟩
    refine ⟨_, rfl, _, rfl, p, c, ns, _, rfl, G.pot, mny (by decide) (by decide), fun r H2 r0 r1 G2 => ?_⟩
    have hD2 : H2 D = some (.lst ((cs.map fun x => mk [x]).map V.str)) := G2.get (hP.nep nD) hD
    refine ⟨_, _, _, rfl, rfl, by decide +kernel, small_at r0 r1, _, hD2, ?_, cs ++ [letter r.toNat], (G.trans G2).mut nD, ?_, by rw [List.length_append, hl]; rfl, fun x hx => ?_⟩
    · rw [List.length_map, List.length_map, hl]
      exact small1000 (by omega)
    · rw [upd_same, List.map_append, List.map_append]
      rfl
    · rcases List.mem_append.mp hx with h | h
      · exact hc x h
      · rw [List.mem_singleton.mp h]
        exact letter_rng _
  rintro H1 ⟨rest, G1, hD, hl, hrest⟩
  refine ⟨_, _, _, rfl, rfl, .inl (SqL.of hD), ?_, ?_⟩
  · rw [List.map_map, List.length_map, hl]
    have e : ∀ cs : List Nat, (cs.map ((fun x : Str => x.length) ∘ fun x => mk [x])).sum = cs.length := fun cs => by
      induction cs with
      | nil => rfl
      | cons a r ih =>
        rw [List.map_cons, List.sum_cons, ih, List.length_cons]
        exact Nat.add_comm 1 _
    rw [e, hl]
    decide
  rw [mk_join]
  refine ⟨_, rfl, p, c, ns, _, rfl, G1.pot, mny (by decide) (by decide), fun sp H2 sp0 sp1 G2 => ?_⟩
  refine ⟨_, rfl, p, c, ns, _, rfl, G2.pot, mny (by decide) (by decide), fun tu H3 tu0 tu1 G3 => ?_⟩
  refine ⟨_, rfl, p, c, ns, _, rfl, G3.pot, mny (by decide) (by decide), fun si H4 si0 si1 G4 => ?_⟩
  have G := ((G1.trans G2).trans G3).trans G4
  obtain ⟨sp, rfl⟩ : ∃ n : Nat, sp = (n : Int) := ⟨sp.toNat, by omega⟩
  obtain ⟨tu, rfl⟩ : ∃ n : Nat, tu = (n : Int) := ⟨tu.toNat, by omega⟩
  obtain ⟨si, rfl⟩ : ∃ n : Nat, si = (n : Int) := ⟨si.toNat, by omega⟩
  refine ⟨(by show 0 ≤ sizeLine; decide), fun l nl => ?_⟩
  have nlH : H l = none := G.free nl
  refine ⟨_, rfl, _, rfl, by omega, by omega, for_range (lo := 0) (n := (m : Int).toNat) (fun i σ H' => ∃ (y8 y9 y10 : Option V), σ = [some (.ref p), some (nV m), some (.str small), some (.str (mk rest)), some (.int sp), some (.int tu), some (.int si), some (.ref l), y8, y9, y10] ∧ Go p c ns H H' ∧ H' l = some (.lst ((namesL rest sp tu si i).map V.str))) ?_ ?_ ?_⟩
  · exact ⟨none, none, none, rfl, G.new nl, upd_same⟩
  · rintro i σ H' hi ⟨y8, y9, y10, rfl, G, hl⟩
    have si31 : i < 26 := by omega
    have e8 : ((si : Int) + ((0 : Int) + (i : Int)) * ((sp : Int) % 2)) % 8 = (((si + i * (sp % 2)) % 8 : Nat) : Int) := by
      rw [Int.zero_add, Int.natCast_emod, Int.natCast_add, Int.natCast_mul, Int.natCast_emod]
      rfl
    -- part
    refine ⟨_, rfl, _, rfl, _, rfl, _, rfl, _, _, rfl, rfl, (by show (0 : Int) < 2; decide), _, _, rfl, rfl, .inl ⟨by omega, by omega⟩, _, _, rfl, rfl, _, _, rfl, rfl, (by show (0 : Int) < 8; decide), _, rfl, mk rest, rfl, ?_, ?_⟩
    · rw [mk_len]
      exact Nat.le_of_lt (small1000 (by omega))
    rw [e8, mk_to]
    have pl := part_len rest si sp i
    show tSeq _ _ _ [some (.ref p), some (nV m), some (.str small), some (.str (mk rest)), some (.int sp), some (.int tu), some (.int si), some (.ref l), some (.int ((0 : Int) + (i : Int))), some (.str (mk (partL rest si sp i))), y10] H'
    generalize hpt : partL rest si sp i = pt at pl
    have pz : (mk pt).length ≤ sizeLine := by
      rw [mk_len]
      exact Nat.le_of_lt (small1000 (by omega))
    -- at
    refine ⟨_, rfl, _, rfl, pz, _, rfl, _, rfl, pz, _, _, rfl, rfl, ⟨by decide, by decide⟩, (by show 3 ≤ sizeLine; decide), fun q3 nq3 => ?_⟩
    refine ⟨_, rfl, q3, _, _, .int (spotL sp pt.length), rfl, rfl, SqL.of upd_same, ?_, ?_⟩
    · rw [mk_len]
      exact spot_at (by omega) _
    -- found.append
    have hl2 : upd H' q3 (.lst [V.int 0, V.int (mk pt).length, V.int (((mk pt).length : Int) / 2)]) l = some (.lst ((namesL rest sp tu si i).map V.str)) := same_new nq3 _ _ hl
    refine ⟨_, rfl, .inl ⟨rfl, _, SqL.of hl2⟩, _, rfl, _, rfl, _, rfl, _, rfl, pz, _, rfl, _, rfl, _, rfl, _, _, rfl, rfl, .inl ⟨by decide, by decide⟩, _, _, rfl, rfl, _, _, rfl, rfl, (by show (0 : Int) < 26; decide), _, _, _, rfl, rfl, by decide +kernel, small_at (Int.emod_nonneg _ (by decide)) (Int.emod_lt_of_pos _ (by decide)), _, _, rfl, rfl, ?_, ?_⟩
    · rw [mk_to, mk_len, List.length_take]
      exact Nat.le_of_lt (small1000 (by show min (spotL sp pt.length) pt.length + 1 ≤ 1000; omega))
    refine ⟨_, rfl, _, rfl, _, rfl, _, rfl, pz, _, _, rfl, rfl, ?_, ?_⟩
    · rw [mk_to, mk_from, mk_len, List.length_drop]
      refine Nat.le_of_lt (small1000 ?_)
      show (mk (pt.take _) ++ mk [_]).length + _ ≤ 1000
      rw [mk_app, mk_len, List.length_append, List.length_take]
      show min _ _ + 1 + _ ≤ 1000
      omega
    have el : letter (((tu : Int) + 5 * ((0 : Int) + (i : Int))) % 26).toNat = letter (tu + 5 * i) := by
      unfold letter
      omega
    have ev : cutS (mk pt) none (some ((spotL sp pt.length : Nat) : Int)) ++ ⟨#[letter (((tu : Int) + 5 * ((0 : Int) + (i : Int))) % 26).toNat]⟩ ++ cutS (mk pt) (some ((spotL sp pt.length : Nat) : Int)) none = mk (nameL rest sp tu si i) := by
      rw [mk_to, mk_from, el, show (⟨#[letter (tu + 5 * i)]⟩ : Str) = mk [letter (tu + 5 * i)] from rfl, mk_app, mk_app]
      unfold nameL
      rw [hpt, List.append_assoc]
      rfl
    refine ⟨l, _, _, rfl, rfl, hl2, ?_, _, _, _, rfl, (G.new nq3).mut nlH, ?_⟩
    · rw [List.length_map]
      unfold namesL
      rw [List.length_map, List.length_range]
      exact small1000 (by omega)
    · rw [upd_same]
      show some (HO.lst (_ ++ [V.str (cutS (mk pt) none (some ((spotL sp pt.length : Nat) : Int)) ++ ⟨#[letter (((tu : Int) + 5 * ((0 : Int) + (i : Int))) % 26).toNat]⟩ ++ cutS (mk pt) (some ((spotL sp pt.length : Nat) : Int)) none)])) = _
      rw [ev]
      unfold namesL
      rw [List.range_succ, List.map_append, List.map_append]
      rfl
  · rintro σ H' ⟨y8, y9, y10, rfl, G, hl⟩
    rw [Int.toNat_natCast] at hl
    exact ⟨_, rfl, q l _ H' G nlH hl (by unfold namesL; rw [List.length_map, List.length_range]) (names_nodup (by omega) hm) (fun x hx => by
      obtain ⟨k, _, rfl⟩ := List.mem_map.mp hx
      exact name_ok hrest _ _ _ _)⟩
/-! _law_names -/
abbrev s_law_names : Stmt := topS 17
theorem sc_law_names : FnScope ["pot", "many", "way", "turn", "small", "found", "k"] ["pot", "many"] (defScope s_law_names) := ⟨rfl, rfl, rfl, by decide +kernel, rfl, by decide +kernel, by decide +kernel⟩
def sp_law_names : Sp := fun vs H Q _ => ∃ (p c : Addr) (ns : List Int) (n : Nat), vs = [.ref p, nV n] ∧ Pot H p c ns ∧ n ≤ 26 ∧ ∀ (l : Addr) (xs : List Str) H', Go p c ns H H' → H l = none → H' l = some (.lst (xs.map V.str)) → xs.length = n → xs.Nodup → (∀ x ∈ xs, IsName x) → Q (.ref l) H'
theorem picks_perm {α : Type} (d : α) {ks : List Nat} (xs : List α) (h : ks.Perm (List.range xs.length)) : (ks.map fun k => xs.getD k d).Perm xs := by
  have e : (List.range xs.length).map (fun k => xs.getD k d) = xs := by
    refine List.ext_getElem (by rw [List.length_map, List.length_range]) fun i h1 h2 => ?_
    rw [List.getElem_map, List.getElem_range, List.getD_eq_getElem?_getD, List.getElem?_eq_getElem h2]
    rfl
  have h2 := h.map (fun k => xs.getD k d)
  rw [e] at h2
  exact h2
theorem ok_law_names (F : Def K mg "_law_names" ["pot", "many"] s_law_names) (m_range : mg "range" = none) (c_law_pick : Cl P w K mg base 2 "_law_pick" sp_law_pick) (c_law_letters : Cl P w K mg base 3 "_law_letters" sp_law_letters) (c_law_order : Cl P w K mg base 3 "_law_order" sp_law_order) : Cl P w K mg base 4 "_law_names" sp_law_names := by
  refine F.cl sc_law_names (fun vs H Q E h => ?_) (fun f cdv A outer s H vs Q E hr h => ?_)
  · obtain ⟨p, c, ns, m, rfl, _⟩ := h
    rfl
  obtain ⟨p, c, ns, m, rfl, hP, hm, q⟩ := h
  have nd := sc_law_names.nd
  refine ⟨_, (pss_cons (ps_set (i := 2) nd rfl (Or.inl rfl) (pe_cl c_law_pick hr (by decide) (by rfl) (pa_cons (pv 0) (pa_cons pe_int pa_nil))))
    (pss_cons (ps_set (i := 3) nd rfl (Or.inr rfl) (pe_cl c_law_pick hr (by decide) (by rfl) (pa_cons (pv 0) (pa_cons pe_int pa_nil))))
    (pss_cons (ps_set (i := 4) nd rfl (Or.inr rfl) pe_str)
    (pss_cut' (ps_if (pt_cmpR op_eq (pv 2) pe_int (by rfl)) (pss_one (ps_set (i := 5) nd rfl (Or.inr rfl) (pe_lc (own := [("k", 6)]) (g := gName 6) (tt := tYes) (by rfl) nd (pi_range1 (by rfl) m_range (pa_cons (pv 1) pa_nil)) (blkOk_by (own := [("k", 6)]) (N := ["pot", "many", "way", "turn", "small", "found", "k"]) (sc := defScope s_law_names) (by decide +kernel)) (fun _ _ _ _ _ => (pg_name (i := 6) nd rfl (Or.inl rfl))) (fun _ _ _ _ _ => pts_nil) (fun _ _ _ _ _ => (pe_op op_repS (pe_ix ix_str (pv 4) (pe_op op_mod (pe_op op_add (pv 3) (pe_op op_fdivW (pv 6) pe_int)) pe_int) (fun _ _ => rfl)) (pe_op op_add pe_int (pe_op op_mod (pv 6) pe_int))))))) (pss_one (ps_set (i := 5) nd rfl (Or.inr rfl) (pe_cl c_law_letters hr (by decide) (by rfl) (pa_cons (pv 0) (pa_cons (pv 1) pa_nil))))))
    (pss_one (ps_ret (pe_lc (own := [("k", 6)]) (g := gName 6) (tt := tYes) (by rfl) nd (pi_listK K (pe_cl c_law_order hr (by decide) (by rfl) (pa_cons (pv 0) (pa_cons (pv 1) pa_nil)))) (blkOk_by (own := [("k", 6)]) (N := ["pot", "many", "way", "turn", "small", "found", "k"]) (sc := defScope s_law_names) (by decide +kernel)) (fun _ _ _ _ _ => (pg_name (i := 6) nd rfl (Or.inl rfl))) (fun _ _ _ _ _ => pts_nil) (fun _ _ _ _ _ => (pe_ix (ix_listK K) (pv 5) (pv 6) (fun _ _ => rfl)))))))))), ?_⟩
  rw [small_eq]
  refine ⟨_, rfl, p, c, ns, _, rfl, hP, mny (by decide) (by decide), fun way H1 w0 w1 G1 => ?_⟩
  refine ⟨_, rfl, p, c, ns, _, rfl, G1.pot, mny (by decide) (by decide), fun tu H2 t0 t1 G2 => ?_⟩
  have G := G1.trans G2
  obtain ⟨tu, rfl⟩ : ∃ n : Nat, tu = (n : Int) := ⟨tu.toNat, by omega⟩
  refine ⟨fun σ H' => ∃ (fl : Addr) (xs : List Str), σ = [some (.ref p), some (nV m), some (.int way), some (.int tu), some (.str small), some (.ref fl), none] ∧ Go p c ns H H' ∧ H fl = none ∧ H' fl = some (.lst (xs.map V.str)) ∧ xs.length = m ∧ xs.Nodup ∧ ∀ x ∈ xs, IsName x, ?_, ?_⟩
  · refine ⟨_, rfl, rfl, _, rfl, ite2 (fun e => ?_) (fun e => ?_)⟩
    · refine ⟨_, rfl, _, rfl, by omega, by omega, fun D nD => lc_range (lo := 0) (n := (m : Int).toNat) (fun i H' => Same H2 H' ∧ H' D = some (.lst (((List.range i).map fun k => mk (repL tu k)).map V.str))) ?_ ?_ ?_⟩
      · exact ⟨same_new nD, upd_same⟩
      · rintro i H' hi ⟨sm, hD⟩
        refine ⟨rfl, ?_⟩
        refine ⟨_, rfl, _, rfl, _, rfl, _, _, rfl, rfl, ⟨by decide, by decide⟩, _, _, rfl, rfl, _, _, rfl, rfl, (by show (0 : Int) < 26; decide), _, _, _, rfl, rfl, by decide +kernel, small_at (Int.emod_nonneg _ (by decide)) (Int.emod_lt_of_pos _ (by decide)), ?_⟩
        refine ⟨_, rfl, _, _, rfl, rfl, (by show (0 : Int) < 8; decide), _, _, rfl, rfl, _, _, rfl, rfl, by omega, by omega, by show 1 ≤ 1000; decide, by show 1 ≤ 1; decide, ?_⟩
        have e1 : letter (((tu : Int) + ((0 : Int) + (i : Int)) / 8) % 26).toNat = letter (tu + i / 8) := by
          unfold letter
          omega
        have e2 : (1 + ((0 : Int) + (i : Int)) % 8).toNat = 1 + i % 8 := by omega
        refine ⟨_, hD, ?_, same_mut sm nD, ?_⟩
        · rw [List.length_map, List.length_map, List.length_range]
          exact small1000 (by omega)
        · rw [upd_same, List.range_succ, List.map_append, List.map_append]
          show some (HO.lst (_ ++ [V.str ⟨(List.replicate (1 + ((0 : Int) + (i : Int)) % 8).toNat [letter (((tu : Int) + ((0 : Int) + (i : Int)) / 8) % 26).toNat]).flatten.toArray⟩])) = _
          rw [e1, e2, List.flatten_replicate_singleton]
          rfl
      · rintro H' ⟨sm, hD⟩
        rw [Int.toNat_natCast] at hD
        refine ⟨D, _, rfl, G.same sm, G.free nD, hD, by rw [List.length_map, List.length_range], nodup_map fun a b ha hb h => rep_inj (turn := tu) (by omega) (by omega) (mk_inj h), fun x hx => ?_⟩
        obtain ⟨k, _, rfl⟩ := List.mem_map.mp hx
        exact rep_ok _ _
    · refine ⟨_, rfl, _, rfl, p, c, ns, m, rfl, G.pot, hm, fun l xs H3 G3 nl hl h1 h2 h3 => ?_⟩
      exact ⟨l, xs, rfl, G.trans G3, G.free nl, hl, h1, h2, h3⟩
  · rintro σ H' ⟨fl, xs, rfl, G', nfl, hfl, hlen, hnd, hnm⟩
    refine ⟨_, rfl, _, rfl, p, c, ns, m, rfl, G'.pot, by omega, fun ol ks H3 G3 nol hol hperm => ⟨ol, rfl, ⟨_, SqL.of hol⟩, fun D nD => lc_list (xs := ks.map nV) (fun i H4 => Same H3 H4 ∧ H4 D = some (.lst (((ks.take i).map fun k => xs.getD k (mk [])).map V.str))) ?_ ?_ ?_ ?_⟩⟩
    · exact ⟨same_new nD, upd_same⟩
    · rintro i H4 _ ⟨sm, _⟩
      exact SqL.of (sm _ _ hol)
    · rintro i x H4 hx ⟨sm, hD⟩
      obtain ⟨k, hk, rfl⟩ : ∃ k, ks[i]? = some k ∧ x = nV k := by
        rw [List.getElem?_map] at hx
        cases e : ks[i]? with
        | none => rw [e] at hx; cases hx
        | some z => rw [e] at hx; exact ⟨z, rfl, (Option.some.inj hx).symm⟩
      have hkm : k < xs.length := by
        have h1 := hperm.mem_iff.mp (List.mem_of_getElem? hk)
        rw [hlen]
        exact List.mem_range.mp h1
      have hil := (List.getElem?_eq_some_iff.mp hk).1
      have hkl : ks.length = m := by rw [hperm.length_eq, List.length_range]
      have hf : H4 fl = some (.lst (xs.map V.str)) := sm _ _ (G3.get (hP.nep nfl) hfl)
      refine ⟨rfl, ?_⟩
      refine ⟨_, rfl, _, rfl, fl, _, _, V.str (xs.getD k (mk [])), rfl, rfl, SqL.of hf, at_of (j := k) rfl ?_, _, hD, ?_, same_mut sm nD, ?_⟩
      · rw [List.getElem?_map, List.getD_eq_getElem?_getD, List.getElem?_eq_getElem hkm]
        rfl
      · rw [List.length_map, List.length_map, List.length_take]
        exact small1000 (by omega)
      · rw [upd_same, List.take_add_one, hk, List.map_append, List.map_append]
        rfl
    · rintro H4 ⟨sm, hD⟩
      rw [List.length_map, List.take_length] at hD
      have hp := picks_perm (mk []) (ks := ks) xs (by rw [hlen]; exact hperm)
      exact q D _ H4 ((G'.trans G3).same sm) ((G'.trans G3).free nD) hD (by rw [hp.length_eq, hlen]) (hp.nodup_iff.mpr hnd) fun x hx => hnm x (hp.mem_iff.mp hx)
end
end Kin
namespace Kin
open PySem PySem.Spec PyProof.Rows L2 RZ
section
variable {P : Program} {w : World} {K : PySem.W.Frag} {mg : Str → Option Value} {base : Heap}
/-! _law_same -/
abbrev s_law_same : Stmt := topS 14
theorem sc_law_same : FnScope ["found", "due", "one", "other"] ["found", "due"] (defScope s_law_same) := ⟨rfl, rfl, rfl, by decide +kernel, rfl, by decide +kernel, by decide +kernel⟩
def sp_law_same (K : PySem.W.Frag) (n : Nat) : Sp := fun vs H Q _ => ∃ (x y : V) (d : PyData), vs = [x, y] ∧ Dp K H x d ∧ Dp K H y d ∧ d.depth < n ∧ wide d ≤ 1000 ∧ ∀ H', Same H H' → Q (.bl true) H'
theorem ok_law_same_step {n : Nat} (F : Def K mg "_law_same" ["found", "due"] s_law_same) (M : MB mg) (c_law_same : Cl P w K mg base n "_law_same" (sp_law_same K n)) : Cl P w K mg base (n + 1) "_law_same" (sp_law_same K (n + 1)) := by
  refine F.cl sc_law_same (fun vs H Q E h => ?_) (fun f cdv A outer s H vs Q E hr h => ?_)
  · obtain ⟨x, y, d, rfl, _⟩ := h
    rfl
  obtain ⟨x, y, d, rfl, hx, hy, hdep, hwd, q⟩ := h
  have nd := sc_law_same.nd
  obtain ⟨m_isinstance, m_bool, m_str, m_int, m_tuple, m_list, m_len, m_all, m_zip, _⟩ := M
  refine ⟨_, (pss_cons (ps_if (PW.pt (pw_or (pt_cmpR op_isN (pv 1) pe_non (by rfl)) (pw_or1 (pt_val (pe_callB (call_isiK' K) (by rfl) m_isinstance (by decide +kernel) (pa_cons (pv 1) (pa_cons (pe_bltn (v := .ty "bool") (u := .type "bool") (by rfl) m_bool (by decide +kernel) rfl) pa_nil))))))) (pss_one (ps_ret (pe_and (pe_cmpR op_eq (pe_callB (call_isiK' K) (by rfl) m_isinstance (by decide +kernel) (pa_cons (pv 0) (pa_cons (pe_bltn (v := .ty "bool") (u := .type "bool") (by rfl) m_bool (by decide +kernel) rfl) pa_nil))) (pe_callB (call_isiK' K) (by rfl) m_isinstance (by decide +kernel) (pa_cons (pv 1) (pa_cons (pe_bltn (v := .ty "bool") (u := .type "bool") (by rfl) m_bool (by decide +kernel) rfl) pa_nil))) (by rfl)) (pe_one (pe_cmpR op_eq (pv 0) (pv 1) (by rfl)))))) pss_nil)
    (pss_cons (ps_if (pt_val (pe_callB (call_isiK' K) (by rfl) m_isinstance (by decide +kernel) (pa_cons (pv 1) (pa_cons (pe_bltn (v := .ty "str") (u := .type "str") (by rfl) m_str (by decide +kernel) rfl) pa_nil)))) (pss_one (ps_ret (pe_and (pe_callB (call_isiK' K) (by rfl) m_isinstance (by decide +kernel) (pa_cons (pv 0) (pa_cons (pe_bltn (v := .ty "str") (u := .type "str") (by rfl) m_str (by decide +kernel) rfl) pa_nil))) (pe_one (pe_cmpR op_eq (pv 0) (pv 1) (by rfl)))))) pss_nil)
    (pss_cons (ps_if (pt_val (pe_callB (call_isiK' K) (by rfl) m_isinstance (by decide +kernel) (pa_cons (pv 1) (pa_cons (pe_bltn (v := .ty "int") (u := .type "int") (by rfl) m_int (by decide +kernel) rfl) pa_nil)))) (pss_one (ps_ret (pe_and (pe_callB (call_isiK' K) (by rfl) m_isinstance (by decide +kernel) (pa_cons (pv 0) (pa_cons (pe_bltn (v := .ty "int") (u := .type "int") (by rfl) m_int (by decide +kernel) rfl) pa_nil))) (pe_and (pe_not (pe_callB (call_isiK' K) (by rfl) m_isinstance (by decide +kernel) (pa_cons (pv 0) (pa_cons (pe_bltn (v := .ty "bool") (u := .type "bool") (by rfl) m_bool (by decide +kernel) rfl) pa_nil)))) (pe_one (pe_cmpR op_eq (pv 0) (pv 1) (by rfl))))))) pss_nil)
    (pss_cons (ps_if (PW.pt (pw_or (pt_cmpR op_ne (pe_callB (call_isiK' K) (by rfl) m_isinstance (by decide +kernel) (pa_cons (pv 1) (pa_cons (pe_bltn (v := .ty "tuple") (u := .type "tuple") (by rfl) m_tuple (by decide +kernel) rfl) pa_nil))) (pe_callB (call_isiK' K) (by rfl) m_isinstance (by decide +kernel) (pa_cons (pv 0) (pa_cons (pe_bltn (v := .ty "tuple") (u := .type "tuple") (by rfl) m_tuple (by decide +kernel) rfl) pa_nil))) (by rfl)) (pw_or1 (pt_cmpR op_ne (pe_callB (call_isiK' K) (by rfl) m_isinstance (by decide +kernel) (pa_cons (pv 1) (pa_cons (pe_bltn (v := .ty "list") (u := .type "list") (by rfl) m_list (by decide +kernel) rfl) pa_nil))) (pe_callB (call_isiK' K) (by rfl) m_isinstance (by decide +kernel) (pa_cons (pv 0) (pa_cons (pe_bltn (v := .ty "list") (u := .type "list") (by rfl) m_list (by decide +kernel) rfl) pa_nil))) (by rfl))))) (pss_one (ps_ret pe_bl)) pss_nil)
    (pss_one (ps_ret (pe_and (pe_cmpR op_eq (pe_callB (call_lenK K) (by rfl) m_len PySem.boot_len (pa_cons (pv 0) pa_nil)) (pe_callB (call_lenK K) (by rfl) m_len PySem.boot_len (pa_cons (pv 1) pa_nil)) (by rfl)) (pe_one (pe_callB (cr_allK K) (by rfl) m_all (by decide +kernel) (pa_cons (pe_lc (own := [("one", 2), ("other", 3)]) (tt := tYes) (by rfl) nd (pi_zipK K (by rfl) m_zip (pa_cons (pv 0) (pa_cons (pv 1) pa_nil))) (blkOk_by (own := [("one", 2), ("other", 3)]) (N := ["found", "due", "one", "other"]) (sc := defScope s_law_same) (by decide +kernel)) (fun _ _ _ _ _ => (pg_tupK K 2 rfl (pgs_cons (pg_name (i := 2) nd rfl (Or.inl rfl)) (pgs_cons (pg_name (i := 3) nd rfl (Or.inl rfl)) pgs_nil)))) (fun _ _ _ _ _ => pts_nil) (fun _ _ _ _ _ => (pe_cl c_law_same hr (Nat.le_refl n) (by rfl) (pa_cons (pv 2) (pa_cons (pv 3) pa_nil))))) pa_nil)))))))))), ?_⟩
  have nn : ∀ v : V, v ≠ .non → ¬ decide (v = .non) = true := fun v h => by
    rw [decide_eq_false h]
    decide
  have qt : ∀ {H'} (v : V), Same H H' → Q (.bl (decide (v = v))) H' := fun v sm => by
    rw [decide_eq_true rfl]
    exact q _ sm
  cases d with
  | none =>
    cases hx
    cases hy
    refine ⟨_, rfl, rfl, _, rfl, ?_⟩
    refine yes (decide_eq_true rfl) ?_
    refine yes rfl ?_
    refine ⟨_, rfl, _, _, _, _, false, rfl, .ty _, (.base .non), kit_ty (by decide +kernel), ⟨_, rfl, _, _, _, _, false, rfl, .ty _, (.base .non), kit_ty (by decide +kernel), ⟨rfl, _, rfl, yes (decide_eq_true rfl) ⟨_, rfl, _, rfl, rfl, qt _ (Same.refl H)⟩⟩⟩⟩
  | bool b =>
    cases hx
    cases hy
    refine ⟨_, rfl, rfl, _, rfl, ?_⟩
    refine no (nn _ fun h => nomatch h) ?_
    refine ⟨_, rfl, _, _, _, _, true, rfl, .ty _, (.base (.bl b)), kit_ty (by decide +kernel), ⟨_, rfl, ?_⟩⟩
    refine yes rfl ?_
    refine ⟨_, rfl, _, _, _, _, true, rfl, .ty _, (.base (.bl b)), kit_ty (by decide +kernel), ⟨_, rfl, _, _, _, _, true, rfl, .ty _, (.base (.bl b)), kit_ty (by decide +kernel), ⟨rfl, _, rfl, yes (decide_eq_true rfl) ⟨_, rfl, _, rfl, rfl, qt _ (Same.refl H)⟩⟩⟩⟩
  | int i =>
    cases hx
    cases hy
    refine ⟨_, rfl, rfl, _, rfl, ?_⟩
    refine no (nn _ fun h => nomatch h) ?_
    refine ⟨_, rfl, _, _, _, _, false, rfl, .ty _, (.base (.int i)), kit_ty (by decide +kernel), ⟨_, rfl, ?_⟩⟩
    refine no (by decide) ?_
    refine ⟨_, rfl, _, _, _, _, false, rfl, .ty _, (.base (.int i)), kit_ty (by decide +kernel), ⟨_, rfl, ?_⟩⟩
    refine no (by decide) ?_
    refine ⟨_, rfl, _, _, _, _, true, rfl, .ty _, (.base (.int i)), kit_ty (by decide +kernel), ⟨_, rfl, ?_⟩⟩
    refine yes rfl ?_
    refine ⟨_, rfl, _, _, _, _, true, rfl, .ty _, (.base (.int i)), kit_ty (by decide +kernel), ⟨_, rfl, ?_⟩⟩
    refine yes rfl ?_
    refine ⟨_, rfl, _, _, _, _, false, rfl, .ty _, (.base (.int i)), kit_ty (by decide +kernel), ⟨_, rfl, _, rfl, ?_⟩⟩
    refine yes rfl ?_
    exact ⟨_, rfl, _, rfl, rfl, qt _ (Same.refl H)⟩
  | str z =>
    cases hx
    cases hy
    refine ⟨_, rfl, rfl, _, rfl, ?_⟩
    refine no (nn _ fun h => nomatch h) ?_
    refine ⟨_, rfl, _, _, _, _, false, rfl, .ty _, (.base (.str z)), kit_ty (by decide +kernel), ⟨_, rfl, ?_⟩⟩
    refine no (by decide) ?_
    refine ⟨_, rfl, _, _, _, _, true, rfl, .ty _, (.base (.str z)), kit_ty (by decide +kernel), ⟨_, rfl, ?_⟩⟩
    refine yes rfl ?_
    refine ⟨_, rfl, _, _, _, _, true, rfl, .ty _, (.base (.str z)), kit_ty (by decide +kernel), ⟨_, rfl, ?_⟩⟩
    refine yes rfl ?_
    exact ⟨_, rfl, _, rfl, rfl, qt _ (Same.refl H)⟩
  | list ds =>
    cases hx with
    | @lst a xs _ ha hxs =>
    cases hy with
    | @lst b ys _ hb hys =>
    refine ⟨_, rfl, rfl, _, rfl, ?_⟩
    refine no (nn _ fun h => nomatch h) ?_
    refine ⟨_, rfl, _, _, _, _, false, rfl, .ty _, (sq_ty hb), kit_ty (by decide +kernel), ⟨_, rfl, ?_⟩⟩
    refine no (by decide) ?_
    refine ⟨_, rfl, _, _, _, _, false, rfl, .ty _, (sq_ty hb), kit_ty (by decide +kernel), ⟨_, rfl, ?_⟩⟩
    refine no (by decide) ?_
    refine ⟨_, rfl, _, _, _, _, false, rfl, .ty _, (sq_ty hb), kit_ty (by decide +kernel), ⟨_, rfl, ?_⟩⟩
    refine no (by decide) ?_
    refine ⟨_, rfl, _, _, _, _, false, rfl, .ty _, (sq_ty hb), kit_ty (by decide +kernel), ⟨_, rfl, _, _, _, _, false, rfl, .ty _, (sq_ty ha), kit_ty (by decide +kernel), ⟨rfl, _, rfl, ?_⟩⟩⟩
    refine no (by decide) ?_
    refine ⟨_, rfl, _, _, _, _, true, rfl, .ty _, (sq_ty hb), kit_ty (by decide +kernel), ⟨_, rfl, _, _, _, _, true, rfl, .ty _, (sq_ty ha), kit_ty (by decide +kernel), ⟨rfl, _, rfl, ?_⟩⟩⟩
    refine no (by decide) ?_
    have el : xs.length = ys.length := (dpAll_len hxs).trans (dpAll_len hys).symm
    have hw2 : max ds.length (wideAll ds) ≤ 1000 := hwd
    have hwa : wideAll ds ≤ 1000 := by omega
    have hwl : ds.length ≤ 1000 := by omega
    refine ⟨_, rfl, a, xs, rfl, .inl ha, _, rfl, b, ys, rfl, .inl hb, rfl, _, rfl, ?_⟩
    refine yes (decide_eq_true (by rw [el])) ?_
    refine ⟨_, rfl, _, rfl, a, b, xs, ys, rfl, .inl ⟨ha, hb, fun D nD => lc_zipL el (fun i H' => Same H H' ∧ H' D = some (.lst ((List.replicate i true).map V.bl))) ?_ ?_ ?_ ?_⟩⟩
    · exact ⟨same_new nD, upd_same⟩
    · rintro i H' _ ⟨sm, _⟩
      exact ⟨sm.seq ha, sm.seq hb⟩
    · rintro i u v H' T hu hv ⟨sm, hD⟩ nT
      have s2 := sm.trans (same_new (o := .tup [u, v]) nT)
      obtain ⟨d1, e1, k1⟩ := dpAll_get hxs hu
      obtain ⟨d2, e2, k2⟩ := dpAll_get hys hv
      have e3 : d2 = d1 := Option.some.inj (e2.symm.trans e1)
      subst e3
      have hTD : D ≠ T := ne_of_none hD nT
      refine ⟨T, _, rfl, SqT.of upd_same, rfl, _, _, rfl, _, _, rfl, rfl, rfl, ?_⟩
      refine ⟨_, rfl, _, rfl, u, v, d2, rfl, dp_same s2 _ _ k1, dp_same s2 _ _ k2, ?_, Nat.le_trans (wide_get e1) hwa, fun H2 s3 => ?_⟩
      · have := depth_get e1
        have e0 : (PyData.list ds).depth = PyData.depthAll ds + 1 := rfl
        omega
      · refine ⟨_, s3 _ _ (by rw [upd_ne hTD]; exact hD), ?_, same_mut (s2.trans s3) nD, ?_⟩
        · rw [List.length_map, List.length_replicate]
          have := (List.getElem?_eq_some_iff.mp hu).1
          rw [dpAll_len hxs] at this
          exact small1000 (by omega)
        · rw [upd_same, List.replicate_succ', List.map_append]
          rfl
    · rintro H' ⟨sm, hD⟩
      refine ⟨D, _, rfl, SqL.of hD, ?_⟩
      have e : (List.replicate xs.length true).all id = true := List.all_eq_true.mpr fun z hz => by
        rw [(List.mem_replicate.mp hz).2]
        rfl
      show Q (.bl ((List.replicate xs.length true).all id)) H'
      rw [e]
      exact q _ sm
  | tuple ds =>
    cases hx with
    | @tup a xs _ ha hxs =>
    cases hy with
    | @tup b ys _ hb hys =>
    refine ⟨_, rfl, rfl, _, rfl, ?_⟩
    refine no (nn _ fun h => nomatch h) ?_
    refine ⟨_, rfl, _, _, _, _, false, rfl, .ty _, (st_ty hb), kit_ty (by decide +kernel), ⟨_, rfl, ?_⟩⟩
    refine no (by decide) ?_
    refine ⟨_, rfl, _, _, _, _, false, rfl, .ty _, (st_ty hb), kit_ty (by decide +kernel), ⟨_, rfl, ?_⟩⟩
    refine no (by decide) ?_
    refine ⟨_, rfl, _, _, _, _, false, rfl, .ty _, (st_ty hb), kit_ty (by decide +kernel), ⟨_, rfl, ?_⟩⟩
    refine no (by decide) ?_
    refine ⟨_, rfl, _, _, _, _, true, rfl, .ty _, (st_ty hb), kit_ty (by decide +kernel), ⟨_, rfl, _, _, _, _, true, rfl, .ty _, (st_ty ha), kit_ty (by decide +kernel), ⟨rfl, _, rfl, ?_⟩⟩⟩
    refine no (by decide) ?_
    refine ⟨_, rfl, _, _, _, _, false, rfl, .ty _, (st_ty hb), kit_ty (by decide +kernel), ⟨_, rfl, _, _, _, _, false, rfl, .ty _, (st_ty ha), kit_ty (by decide +kernel), ⟨rfl, _, rfl, ?_⟩⟩⟩
    refine no (by decide) ?_
    have el : xs.length = ys.length := (dpAll_len hxs).trans (dpAll_len hys).symm
    have hw2 : max ds.length (wideAll ds) ≤ 1000 := hwd
    have hwa : wideAll ds ≤ 1000 := by omega
    have hwl : ds.length ≤ 1000 := by omega
    refine ⟨_, rfl, a, xs, rfl, .inr ha, _, rfl, b, ys, rfl, .inr hb, rfl, _, rfl, ?_⟩
    refine yes (decide_eq_true (by rw [el])) ?_
    refine ⟨_, rfl, _, rfl, a, b, xs, ys, rfl, .inr ⟨ha, hb, fun D nD => lc_zipT el (fun i H' => Same H H' ∧ H' D = some (.lst ((List.replicate i true).map V.bl))) ?_ ?_ ?_ ?_⟩⟩
    · exact ⟨same_new nD, upd_same⟩
    · rintro i H' _ ⟨sm, _⟩
      exact ⟨st_same sm ha, st_same sm hb⟩
    · rintro i u v H' T hu hv ⟨sm, hD⟩ nT
      have s2 := sm.trans (same_new (o := .tup [u, v]) nT)
      obtain ⟨d1, e1, k1⟩ := dpAll_get hxs hu
      obtain ⟨d2, e2, k2⟩ := dpAll_get hys hv
      have e3 : d2 = d1 := Option.some.inj (e2.symm.trans e1)
      subst e3
      have hTD : D ≠ T := ne_of_none hD nT
      refine ⟨T, _, rfl, SqT.of upd_same, rfl, _, _, rfl, _, _, rfl, rfl, rfl, ?_⟩
      refine ⟨_, rfl, _, rfl, u, v, d2, rfl, dp_same s2 _ _ k1, dp_same s2 _ _ k2, ?_, Nat.le_trans (wide_get e1) hwa, fun H2 s3 => ?_⟩
      · have := depth_get e1
        have e0 : (PyData.tuple ds).depth = PyData.depthAll ds + 1 := rfl
        omega
      · refine ⟨_, s3 _ _ (by rw [upd_ne hTD]; exact hD), ?_, same_mut (s2.trans s3) nD, ?_⟩
        · rw [List.length_map, List.length_replicate]
          have := (List.getElem?_eq_some_iff.mp hu).1
          rw [dpAll_len hxs] at this
          exact small1000 (by omega)
        · rw [upd_same, List.replicate_succ', List.map_append]
          rfl
    · rintro H' ⟨sm, hD⟩
      refine ⟨D, _, rfl, SqL.of hD, ?_⟩
      have e : (List.replicate xs.length true).all id = true := List.all_eq_true.mpr fun z hz => by
        rw [(List.mem_replicate.mp hz).2]
        rfl
      show Q (.bl ((List.replicate xs.length true).all id)) H'
      rw [e]
      exact q _ sm
  | dict ds => cases hx
theorem ok_law_same (F : Def K mg "_law_same" ["found", "due"] s_law_same) (M : MB mg) : ∀ n : Nat, Cl P w K mg base n "_law_same" (sp_law_same K n)
  | 0 => by
    obtain ⟨f, fd, F1, hm, b⟩ := F.ex
    have no : ∀ vs H Q E, ¬ sp_law_same K 0 vs H Q E := fun vs H Q E h => by
      obtain ⟨x, y, d, _, _, _, h, _⟩ := h
      omega
    exact ⟨f, fd, _, ⟨fun vs H Q E h => absurd h (no vs H Q E), fun A outer s H args us vs Q E _ _ _ _ h => absurd h (no vs H Q E)⟩, hm, F1.kp, b⟩
  | n + 1 => ok_law_same_step F M (ok_law_same F M n)
end
end Kin
namespace Kin
open PySem PySem.Spec PyProof.Rows L2 RZ
section
variable {P : Program} {w : World} {K : PySem.W.Frag} {mg : Str → Option Value} {base : Heap}
/-! is_whole -/
abbrev s_is_whole : Stmt := topS 1
theorem sc_is_whole : FnScope ["thing"] ["thing"] (defScope s_is_whole) := ⟨rfl, rfl, rfl, by decide +kernel, rfl, by decide +kernel, by decide +kernel⟩
def intB : PyData → Bool
  | .int _ => true
  | .bool _ => true
  | _ => false
def boolB : PyData → Bool
  | .bool _ => true
  | _ => false
def strB : PyData → Bool
  | .str _ => true
  | _ => false
theorem kit_int : ∀ d : PyData, kitB (tyN d) "int" = some (intB d)
  | .none => (by decide +kernel : kitB "NoneType" "int" = some false)
  | .bool _ => (by decide +kernel : kitB "bool" "int" = some true)
  | .int _ => (by decide +kernel : kitB "int" "int" = some true)
  | .str _ => (by decide +kernel : kitB "str" "int" = some false)
  | .list _ => (by decide +kernel : kitB "list" "int" = some false)
  | .tuple _ => (by decide +kernel : kitB "tuple" "int" = some false)
  | .dict _ => (by decide +kernel : kitB "dict" "int" = some false)
theorem kit_bool : ∀ d : PyData, kitB (tyN d) "bool" = some (boolB d)
  | .none => (by decide +kernel : kitB "NoneType" "bool" = some false)
  | .bool _ => (by decide +kernel : kitB "bool" "bool" = some true)
  | .int _ => (by decide +kernel : kitB "int" "bool" = some false)
  | .str _ => (by decide +kernel : kitB "str" "bool" = some false)
  | .list _ => (by decide +kernel : kitB "list" "bool" = some false)
  | .tuple _ => (by decide +kernel : kitB "tuple" "bool" = some false)
  | .dict _ => (by decide +kernel : kitB "dict" "bool" = some false)
theorem kit_str : ∀ d : PyData, kitB (tyN d) "str" = some (strB d)
  | .none => (by decide +kernel : kitB "NoneType" "str" = some false)
  | .bool _ => (by decide +kernel : kitB "bool" "str" = some false)
  | .int _ => (by decide +kernel : kitB "int" "str" = some false)
  | .str _ => (by decide +kernel : kitB "str" "str" = some true)
  | .list _ => (by decide +kernel : kitB "list" "str" = some false)
  | .tuple _ => (by decide +kernel : kitB "tuple" "str" = some false)
  | .dict _ => (by decide +kernel : kitB "dict" "str" = some false)
def wholeB : PyData → Bool
  | .int _ => true
  | _ => false
def sp_whole (K : PySem.W.Frag) : Sp := fun vs H Q _ => ∃ (x : V) (d : PyData), vs = [x] ∧ Dp K H x d ∧ Q (.bl (wholeB d)) H
theorem ok_whole (F : Def K mg "is_whole" ["thing"] s_is_whole) (M : MB mg) : Cl P w K mg base 1 "is_whole" (sp_whole K) := by
  refine F.cl sc_is_whole (fun vs H Q E h => ?_) (fun f cdv A outer s H vs Q E hr h => ?_)
  · obtain ⟨x, d, rfl, _⟩ := h
    rfl
  obtain ⟨x, d, rfl, hd, q⟩ := h
  have nd := sc_is_whole.nd
  have m_isinstance := M.m_isinstance
  have m_int := M.m_int
  have m_bool := M.m_bool
  refine ⟨_, (pss_one (ps_ret (pe_and (pe_callB (call_isiK' K) (by rfl) m_isinstance (by decide +kernel) (pa_cons (pv 0) (pa_cons (pe_bltn (v := .ty "int") (u := .type "int") (by rfl) m_int (by decide +kernel) rfl) pa_nil))) (pe_one (pe_not (pe_callB (call_isiK' K) (by rfl) m_isinstance (by decide +kernel) (pa_cons (pv 0) (pa_cons (pe_bltn (v := .ty "bool") (u := .type "bool") (by rfl) m_bool (by decide +kernel) rfl) pa_nil)))))))), ?_⟩
  refine ⟨_, rfl, _, _, _, _, intB d, rfl, .ty _, dp_ty hd, kit_ty (kit_int d), ⟨_, rfl, ?_⟩⟩
  by_cases c : intB d = true
  · refine yes c ?_
    refine ⟨_, rfl, _, _, _, _, boolB d, rfl, .ty _, dp_ty hd, kit_ty (kit_bool d), ⟨_, rfl, ?_⟩⟩
    have e : (!boolB d) = wholeB d := by cases d <;> first | rfl | cases c
    rw [e]
    exact q
  · refine no c ?_
    have e : wholeB d = false := by cases d <;> first | rfl | exact absurd rfl c
    rw [e] at q
    exact q
theorem lc_str {x : Str} {g : TG} {tt : TT} {te : TE} {vs : List Nat} {σ : L2.St} {H1 : Hp} {D : Addr} {Qd : Hp → Prop} (Pv : Nat → Hp → Prop) (h0 : Pv 0 (upd H1 D (.lst [])))
    (hs : ∀ (i : Nat) c H, x.cps.toList[i]? = some c → Pv i H → g (.str ⟨#[c]⟩) (wipe σ vs) H fun σ2 H2 => wipe σ2 vs = wipe σ vs ∧ tt σ2 H2 fun b H3 =>
      if b = true then te σ2 H3 fun y H4 => ∃ acc, H4 D = some (.lst acc) ∧ acc.length < sizeLine ∧ Pv (i + 1) (upd H4 D (.lst (acc ++ [y]))) else Pv (i + 1) H3) (hd : ∀ H, Pv x.cps.size H → Qd H) :
    ∃ W : Nat → Nat → Hp → Prop, (∃ m, W 0 m (upd H1 D (.lst []))) ∧ ∀ i m H, W i m H →
      ((Its x).stop i H ∧ Qd H) ∨ ((Its x).go i H ∧ ∃ Nx : Hp → Prop, (∀ H', Nx H' → ∃ m', m' < m ∧ W (i + 1) m' H') ∧ ∀ v H', (Its x).yld i H v H' → g v (wipe σ vs) H' fun σ2 H2 => wipe σ2 vs = wipe σ vs ∧ tt σ2 H2 fun b H3 =>
        if b = true then te σ2 H3 fun y H4 => ∃ acc, H4 D = some (.lst acc) ∧ acc.length < sizeLine ∧ Nx (upd H4 D (.lst (acc ++ [y]))) else Nx H3) := by
  refine ⟨fun i m H => i ≤ x.cps.size ∧ m + i = x.cps.size ∧ Pv i H, ⟨x.cps.size, Nat.zero_le _, rfl, h0⟩, fun i m H hw => ?_⟩
  obtain ⟨hi, hm, hp⟩ := hw
  by_cases hlt : i < x.cps.size
  · refine .inr ⟨hlt, Pv (i + 1), fun H' hp' => ⟨m - 1, by omega, by omega, by omega, hp'⟩, fun v H' hy => ?_⟩
    obtain ⟨rfl, c, hc, rfl⟩ := hy
    exact hs i c H' (by rw [Array.getElem?_toList]; exact hc) hp
  · have ei : i = x.cps.size := by omega
    rw [ei] at hp
    exact .inl ⟨(by show x.cps.size ≤ i; omega), hd H hp⟩
/-! is_name -/
abbrev s_is_name : Stmt := topS 2
theorem sc_is_name : FnScope ["thing", "sign"] ["thing"] (defScope s_is_name) := ⟨rfl, rfl, rfl, by decide +kernel, rfl, by decide +kernel, by decide +kernel⟩
def signsB (x : Str) : Bool := x.cps.toList.all fun c => !decide (([c] : List Nat) < [97]) && !decide (([122] : List Nat) < [c])
def nameB : PyData → Bool
  | .str x => (decide (1 ≤ x.length) && decide (x.length ≤ 8)) && signsB x
  | _ => false
def sp_name (K : PySem.W.Frag) : Sp := fun vs H Q _ => ∃ (x : V) (d : PyData), vs = [x] ∧ Dp K H x d ∧ (∀ z, d = .str z → z.length ≤ 1000) ∧ ∀ H', Same H H' → Q (.bl (nameB d)) H'
theorem ok_name (F : Def K mg "is_name" ["thing"] s_is_name) (M : MB mg) : Cl P w K mg base 1 "is_name" (sp_name K) := by
  refine F.cl sc_is_name (fun vs H Q E h => ?_) (fun f cdv A outer s H vs Q E hr h => ?_)
  · obtain ⟨x, d, rfl, _⟩ := h
    rfl
  obtain ⟨x, d, rfl, hd, hz, q⟩ := h
  have nd := sc_is_name.nd
  have m_isinstance := M.m_isinstance
  have m_str := M.m_str
  have m_len := M.m_len
  have m_all := M.m_all
  refine ⟨_, (pss_cons (ps_if (pt_not (pt_val (pe_callB (call_isiK' K) (by rfl) m_isinstance (by decide +kernel) (pa_cons (pv 0) (pa_cons (pe_bltn (v := .ty "str") (u := .type "str") (by rfl) m_str (by decide +kernel) rfl) pa_nil))))) (pss_one (ps_ret pe_bl)) pss_nil)
    (pss_one (ps_ret (pe_and (pe_chain op_le op_le pe_int (pe_callB call_len_str (by rfl) m_len PySem.boot_len (pa_cons (pv 0) pa_nil)) pe_int) (pe_one (pe_callB (cr_allK K) (by rfl) m_all (by decide +kernel) (pa_cons (pe_lc (own := [("sign", 1)]) (g := gName 1) (tt := tYes) (by rfl) nd (pi_str (pv 0)) (blkOk_by (own := [("sign", 1)]) (N := ["thing", "sign"]) (sc := defScope s_is_name) (by decide +kernel)) (fun _ _ _ _ _ => (pg_name (i := 1) nd rfl (Or.inl rfl))) (fun _ _ _ _ _ => pts_nil) (fun _ _ _ _ _ => (pe_chain op_le_str op_le_str pe_str (pv 1) pe_str))) pa_nil))))))), ?_⟩
  refine ⟨_, rfl, _, _, _, _, strB d, rfl, .ty _, dp_ty hd, kit_ty (kit_str d), ⟨_, rfl, ?_⟩⟩
  cases d with
  | str z =>
    refine no (by show ¬ (!true) = true; decide) ?_
    cases hd
    have hz := hz z rfl
    have z0 := q _ (Same.refl H)
    refine ⟨_, rfl, z, rfl, Nat.le_of_lt (small1000 hz), _, _, rfl, rfl, _, rfl, ?_⟩
    have hn : nameB (.str z) = ((decide (1 ≤ z.length) && decide (z.length ≤ 8)) && signsB z) := rfl
    by_cases c1 : 1 ≤ z.length
    rotate_left
    · refine no (by rw [decide_eq_false (by omega)]; decide) ?_
      rw [hn, decide_eq_false c1, Bool.false_and, Bool.false_and] at z0
      exact ⟨_, rfl, no (by decide) z0⟩
    refine yes (decide_eq_true (by omega)) ?_
    refine ⟨_, _, rfl, rfl, _, rfl, ?_⟩
    by_cases c2 : z.length ≤ 8
    rotate_left
    · refine no (by rw [decide_eq_false (by omega)]; decide) ?_
      rw [hn, decide_eq_false c2, Bool.and_false, Bool.false_and] at z0
      exact z0
    refine yes (decide_eq_true (by omega)) ?_
    refine ⟨_, rfl, z, rfl, fun D nD => lc_str (x := z) (fun i H' => Same H H' ∧ H' D = some (.lst (((z.cps.toList.take i).map fun c => !decide (([c] : List Nat) < [97]) && !decide (([122] : List Nat) < [c])).map V.bl))) ?_ ?_ ?_⟩
    · exact ⟨same_new nD, upd_same⟩
    · rintro i c H' hc ⟨sm, hD⟩
      have hi := (List.getElem?_eq_some_iff.mp hc).1
      have hzs : z.cps.toList.length = z.length := Array.length_toList
      refine ⟨rfl, ?_⟩
      refine ⟨_, rfl, _, _, rfl, rfl, _, rfl, ?_⟩
      have put : ∀ b : Bool, b = (!decide (([c] : List Nat) < [97]) && !decide (([122] : List Nat) < [c])) → ∃ acc, H' D = some (.lst acc) ∧ acc.length < sizeLine ∧ Same H (upd H' D (.lst (acc ++ [V.bl b]))) ∧ upd H' D (.lst (acc ++ [V.bl b])) D = some (.lst (((z.cps.toList.take (i + 1)).map fun c => !decide (([c] : List Nat) < [97]) && !decide (([122] : List Nat) < [c])).map V.bl)) := fun b hb => by
        refine ⟨_, hD, ?_, same_mut sm nD, ?_⟩
        · rw [List.length_map, List.length_map, List.length_take, hzs]
          exact small1000 (by omega)
        · rw [upd_same, List.take_add_one, hc, List.map_append, List.map_append, hb]
          rfl
      show (if (!decide (([c] : List Nat) < [97])) = true then _ else _)
      by_cases ca : ([c] : List Nat) < [97]
      · refine no (by rw [decide_eq_true ca]; decide) ?_
        exact put false (by rw [decide_eq_true ca]; rfl)
      · refine yes (by rw [decide_eq_false ca]; decide) ?_
        exact ⟨_, _, rfl, rfl, put _ (by rw [decide_eq_false ca]; rfl)⟩
    · rintro H' ⟨sm, hD⟩
      rw [show z.cps.size = z.cps.toList.length from Array.length_toList.symm, List.take_length] at hD
      have z1 := q _ sm
      rw [hn, decide_eq_true c1, decide_eq_true c2, Bool.true_and, Bool.true_and] at z1
      refine ⟨D, _, rfl, SqL.of hD, ?_⟩
      rw [List.all_map]
      exact z1
  | _ =>
    refine yes (by show (!false) = true; decide) ?_
    exact q _ (Same.refl H)
end
end Kin
namespace Kin
open PySem PySem.Spec PyProof.Rows L2 RZ
theorem lay_mem : ∀ {ds : List PyData} {d : PyData}, PyData.canLayAll0 ds = true → d ∈ ds → PyData.canLay0 d = true
  | [], _, _, h => nomatch h
  | e :: t, d, h, hm => by
    unfold PyData.canLayAll0 at h
    rw [Bool.and_eq_true] at h
    rcases List.mem_cons.mp hm with c | c
    · rw [c]; exact h.1
    · exact lay_mem h.2 c
theorem depth_mem : ∀ {ds : List PyData} {d : PyData}, d ∈ ds → d.depth ≤ PyData.depthAll ds
  | [], _, h => nomatch h
  | e :: t, d, hm => by
    show d.depth ≤ max e.depth (PyData.depthAll t)
    rcases List.mem_cons.mp hm with c | c
    · rw [c]; exact Nat.le_max_left _ _
    · exact Nat.le_trans (depth_mem c) (Nat.le_max_right _ _)
theorem shaped_mem {ds : List PyData} {d : PyData} (h : SeqAt.shaped (.tuple ds) = true) (hm : d ∈ ds) : SeqAt.shaped d = true := by
  unfold SeqAt.shaped at h ⊢
  rw [Bool.and_eq_true] at h
  have h1 : PyData.canLayAll0 ds = true := h.1
  have h2 : PyData.depthAll ds + 1 ≤ 64 := of_decide_eq_true h.2
  have h3 := depth_mem hm
  rw [lay_mem h1 hm, decide_eq_true (by omega)]
  rfl
theorem shaped_str {w : Str} (h : PyData.strOk w = true) : SeqAt.shaped (.str w) = true := by
  unfold SeqAt.shaped
  have h1 : PyData.canLay0 (.str w) = true := h
  rw [h1]
  show (true && decide (0 ≤ 64)) = true
  rfl
def tupB : PyData → Bool
  | .tuple _ => true
  | _ => false
theorem kit_tup : ∀ d : PyData, kitB (tyN d) "tuple" = some (tupB d)
  | .none => (by decide +kernel : kitB "NoneType" "tuple" = some false)
  | .bool _ => (by decide +kernel : kitB "bool" "tuple" = some false)
  | .int _ => (by decide +kernel : kitB "int" "tuple" = some false)
  | .str _ => (by decide +kernel : kitB "str" "tuple" = some false)
  | .list _ => (by decide +kernel : kitB "list" "tuple" = some false)
  | .tuple _ => (by decide +kernel : kitB "tuple" "tuple" = some true)
  | .dict _ => (by decide +kernel : kitB "dict" "tuple" = some false)
/-- a tuple of so many, this word first -/
def formB (d : PyData) (w : Str) (n : Nat) : Bool := match d with
  | .tuple (d0 :: t) => decide (t.length + 1 = n) && PyData.eqv d0 (.str w)
  | _ => false
section
variable {P : Program} {w : World} {K : PySem.W.Frag} {mg : Str → Option Value} {base : Heap}
/-! _has_form -/
abbrev s_has_form : Stmt := topS 7
theorem sc_has_form : FnScope ["thing", "word", "many"] ["thing", "word", "many"] (defScope s_has_form) := ⟨rfl, rfl, rfl, by decide +kernel, rfl, by decide +kernel, by decide +kernel⟩
def sp_form (K : PySem.W.Frag) : Sp := fun vs H Q _ => ∃ (x : V) (d : PyData) (w : Str) (n : Nat), vs = [x, .str w, nV (n + 1)] ∧ Dp K H x d ∧ SeqAt.shaped d = true ∧ PyData.strOk w = true ∧ Q (.bl (formB d w (n + 1))) H
theorem ok_form (F : Def K mg "_has_form" ["thing", "word", "many"] s_has_form) (M : MB mg) : Cl P w K mg base 1 "_has_form" (sp_form K) := by
  refine F.cl sc_has_form (fun vs H Q E h => ?_) (fun f cdv A outer s H vs Q E hr h => ?_)
  · obtain ⟨x, d, w, n, rfl, _⟩ := h
    rfl
  obtain ⟨x, d, w, n, rfl, hd, hsh, hw, q⟩ := h
  have nd := sc_has_form.nd
  have m_isinstance := M.m_isinstance
  have m_tuple := M.m_tuple
  have m_len := M.m_len
  refine ⟨_, (pss_one (ps_ret (pe_and (pe_callB (call_isiK' K) (by rfl) m_isinstance (by decide +kernel) (pa_cons (pv 0) (pa_cons (pe_bltn (v := .ty "tuple") (u := .type "tuple") (by rfl) m_tuple (by decide +kernel) rfl) pa_nil))) (pe_and (pe_cmpR op_eq (pe_callB (call_lenK K) (by rfl) m_len PySem.boot_len (pa_cons (pv 0) pa_nil)) (pv 2) (by rfl)) (pe_one (pe_cmpR (op_eqK K hr.units) (pe_ix (ix_tupK K) (pv 0) pe_int (fun _ _ => rfl)) (pv 1) (by rfl))))))), ?_⟩
  refine ⟨_, rfl, _, _, _, _, tupB d, rfl, .ty _, dp_ty hd, kit_ty (kit_tup d), ⟨_, rfl, ?_⟩⟩
  have out : tupB d = false → Q (.bl false) H := fun h => by
    have e : formB d w (n + 1) = false := by
      cases d with
      | tuple ds => cases h
      | _ => rfl
    rw [e] at q
    exact q
  cases hd with
  | tup hs hall =>
    rename_i a ys ds
    refine yes rfl ?_
    have hl := dpAll_len hall
    refine ⟨_, rfl, a, ys, rfl, .inr hs, _, rfl, rfl, _, rfl, ?_⟩
    by_cases c : ds.length = n + 1
    · refine yes (decide_eq_true (by rw [hl, c]; rfl)) ?_
      cases hall with
      | nil => cases c
      | cons h0 ht =>
        rename_i x0 xs d0 t
        have e : formB (.tuple (d0 :: t)) w (n + 1) = PyData.eqv d0 (.str w) := by
          show (decide (t.length + 1 = n + 1) && PyData.eqv d0 (.str w)) = _
          rw [decide_eq_true (show t.length + 1 = n + 1 from c), Bool.true_and]
        rw [e] at q
        exact ⟨_, rfl, a, _, _, x0, rfl, rfl, hs, at_of (j := 0) rfl rfl, _, rfl, d0, .str w, h0, .str w, shaped_mem hsh List.mem_cons_self, shaped_str hw, q⟩
    · have hne : ¬ (V.int (ys.length : Nat) = nV (n + 1)) := fun h => c (by
        have h2 := V.int.inj h
        omega)
      refine no (by rw [decide_eq_false hne]; decide) ?_
      have e : formB (.tuple ds) w (n + 1) = false := by
        cases ds with
        | nil => rfl
        | cons d0 t =>
          show (decide (t.length + 1 = n + 1) && PyData.eqv d0 (.str w)) = false
          rw [decide_eq_false (show ¬ t.length + 1 = n + 1 from c), Bool.false_and]
      rw [e] at q
      exact q
  | _ => exact no (by show ¬ false = true; decide) (out rfl)
end
end Kin
namespace Kin
open PySem PySem.Spec PyProof.Rows L2 RZ
mutual
/-- the longest text within -/
def long : PyData → Nat
  | .str x => x.length
  | .list ds => longAll ds
  | .tuple ds => longAll ds
  | _ => 0
def longAll : List PyData → Nat
  | [] => 0
  | d :: t => max (long d) (longAll t)
end
theorem long_mem : ∀ {ds : List PyData} {d : PyData}, d ∈ ds → long d ≤ longAll ds
  | [], _, h => nomatch h
  | e :: t, d, hm => by
    show long d ≤ max (long e) (longAll t)
    rcases List.mem_cons.mp hm with c | c
    · rw [c]; exact Nat.le_max_left _ _
    · exact Nat.le_trans (long_mem c) (Nat.le_max_right _ _)
def partD (d : PyData) (i : Nat) : PyData := match d with
  | .tuple ds => ds.getD i .none
  | _ => .none
/-- a part of a tuple in the heap -/
theorem part_at {K : PySem.W.Frag} {H : Hp} {x : V} {d : PyData} {w : Str} {n i : Nat} (hd : Dp K H x d) (hf : formB d w n = true) (hi : i < n) (hs : SeqAt.shaped d = true) {m : Nat} (hl : long d ≤ m) :
    ∃ (a : Addr) (xs : List V) (y : V), x = .ref a ∧ SqT K H a xs ∧ xs[i]? = some y ∧ Dp K H y (partD d i) ∧ SeqAt.shaped (partD d i) = true ∧ long (partD d i) ≤ m := by
  cases hd with
  | tup h hall =>
    rename_i a ys ds
    have hlen : ds.length = n := by
      cases ds with
      | nil => cases hf
      | cons d0 t =>
        have h2 : (decide (t.length + 1 = n) && PyData.eqv d0 (.str w)) = true := hf
        rw [Bool.and_eq_true] at h2
        exact of_decide_eq_true h2.1
    have hyl := dpAll_len hall
    have hiy : i < ys.length := by omega
    obtain ⟨e, he, hde⟩ := dpAll_get hall (List.getElem?_eq_getElem hiy)
    have hp : partD (.tuple ds) i = e := by
      show ds.getD i .none = e
      rw [List.getD_eq_getElem?_getD, he]
      rfl
    have hm := List.mem_of_getElem? he
    refine ⟨a, ys, ys[i], rfl, h, List.getElem?_eq_getElem hiy, by rw [hp]; exact hde, by rw [hp]; exact shaped_mem hs hm, by rw [hp]; exact Nat.le_trans (long_mem hm) hl⟩
  | _ => cases hf
section
variable {P : Program} {w : World} {K : PySem.W.Frag} {mg : Str → Option Value} {base : Heap}
/-! _is_sign -/
abbrev s_is_sign : Stmt := topS 9
theorem sc_is_sign : FnScope ["sign"] ["sign"] (defScope s_is_sign) := ⟨rfl, rfl, rfl, by decide +kernel, rfl, by decide +kernel, by decide +kernel⟩
def signB (c : Nat) : Bool := (!decide (([c] : List Nat) < [32]) && !decide (([126] : List Nat) < [c])) || (decide (c = 9) || decide (c = 10))
def sp_sign (K : PySem.W.Frag) : Sp := fun vs H Q _ => ∃ c : Nat, vs = [.str ⟨#[c]⟩] ∧ Q (.bl (signB c)) H
theorem ok_sign (F : Def K mg "_is_sign" ["sign"] s_is_sign) (M : MB mg) : Cl P w K mg base 1 "_is_sign" (sp_sign K) := by
  refine F.cl sc_is_sign (fun vs H Q E h => ?_) (fun f cdv A outer s H vs Q E hr h => ?_)
  · obtain ⟨c, rfl, _⟩ := h
    rfl
  obtain ⟨c, rfl, q⟩ := h
  have nd := sc_is_sign.nd
  refine ⟨_, (pss_one (ps_ret (pe_or (pe_chain op_le_str op_le_str pe_str (pv 0) pe_str) (pe_or (pe_cmpR op_eq (pv 0) pe_str (by rfl)) (pe_one (pe_cmpR op_eq (pv 0) pe_str (by rfl))))))), ?_⟩
  have tail : ∀ x0 : Bool, signB c = (x0 || (decide (c = 9) || decide (c = 10))) → Q (.bl (x0 || (decide (V.str ⟨#[c]⟩ = V.str "\t") || decide (V.str ⟨#[c]⟩ = V.str "\n")))) H := fun x0 hx => by
    have e1 : decide (V.str ⟨#[c]⟩ = V.str "\t") = decide (c = 9) := by
      by_cases h : c = 9
      · rw [h]; decide +kernel
      · rw [decide_eq_false h, decide_eq_false fun e => h ?_]
        have h2 := congrArg (fun s : Str => s.cps.toList) (V.str.inj e)
        have h3 : ([c] : List Nat) = [9] := h2
        exact (List.cons.inj h3).1
    have e2 : decide (V.str ⟨#[c]⟩ = V.str "\n") = decide (c = 10) := by
      by_cases h : c = 10
      · rw [h]; decide +kernel
      · rw [decide_eq_false h, decide_eq_false fun e => h ?_]
        have h2 := congrArg (fun s : Str => s.cps.toList) (V.str.inj e)
        have h3 : ([c] : List Nat) = [10] := h2
        exact (List.cons.inj h3).1
    rw [e1, e2, ← hx]
    exact q
  have rest : signB c = (false || (decide (c = 9) || decide (c = 10))) → ∃ k, V.bl false = V.bl k ∧ (if k = true then Q (.bl true) H else tOrV (tOp rEq (tVar 0) (tC (V.str "\t"))) (tOp rEq (tVar 0) (tC (V.str "\n"))) (L2.start ["sign"] [V.str ⟨#[c]⟩]) H Q) := fun hx => by
    have t := tail false hx
    refine ⟨_, rfl, no (by decide) ?_⟩
    refine ⟨_, rfl, rfl, _, rfl, ?_⟩
    by_cases h : V.str ⟨#[c]⟩ = V.str "\t"
    · refine yes (decide_eq_true h) ?_
      rw [decide_eq_true h] at t
      exact t
    · refine no (by rw [decide_eq_false h]; decide) ?_
      rw [decide_eq_false h] at t
      exact ⟨_, rfl, rfl, t⟩
  refine ⟨_, rfl, _, _, rfl, rfl, _, rfl, ?_⟩
  show (if (!decide (([c] : List Nat) < [32])) = true then _ else _)
  by_cases c1 : ([c] : List Nat) < [32]
  · refine no (by rw [decide_eq_true c1]; decide) ?_
    exact rest (by unfold signB; rw [decide_eq_true c1]; rfl)
  · refine yes (by rw [decide_eq_false c1]; decide) ?_
    refine ⟨_, _, rfl, rfl, ?_⟩
    show ∃ k, V.bl (!decide (([126] : List Nat) < [c])) = V.bl k ∧ _
    by_cases c2 : ([126] : List Nat) < [c]
    · rw [decide_eq_true c2]
      exact rest (by unfold signB; rw [decide_eq_true c2, Bool.not_true, Bool.and_false])
    · rw [decide_eq_false c2]
      refine ⟨_, rfl, yes (by decide) ?_⟩
      have e : signB c = true := by unfold signB; rw [decide_eq_false c1, decide_eq_false c2]; rfl
      rw [e] at q
      exact q
/-! _is_gate -/
abbrev s_is_gate : Stmt := topS 6
theorem sc_is_gate : FnScope ["thing"] ["thing"] (defScope s_is_gate) := ⟨rfl, rfl, rfl, by decide +kernel, rfl, by decide +kernel, by decide +kernel⟩
def noneB : PyData → Bool
  | .none => true
  | _ => false
theorem non_iff {K : PySem.W.Frag} {H : Hp} {x : V} {d : PyData} (h : Dp K H x d) : decide (x = V.non) = noneB d := by
  cases h with
  | non => exact decide_eq_true rfl
  | _ => exact decide_eq_false fun e => nomatch e
def gateB (d : PyData) : Bool := formB d "gate" 3 && (nameB (partD d 1) && (noneB (partD d 2) || nameB (partD d 2)))
def sp_gate (K : PySem.W.Frag) : Sp := fun vs H Q _ => ∃ (x : V) (d : PyData), vs = [x] ∧ Dp K H x d ∧ SeqAt.shaped d = true ∧ long d ≤ 1000 ∧ ∀ H', Same H H' → Q (.bl (gateB d)) H'
theorem ok_gate (F : Def K mg "_is_gate" ["thing"] s_is_gate) (M : MB mg) (c_has_form : Cl P w K mg base 1 "_has_form" (sp_form K)) (cis_name : Cl P w K mg base 1 "is_name" (sp_name K)) : Cl P w K mg base 2 "_is_gate" (sp_gate K) := by
  refine F.cl sc_is_gate (fun vs H Q E h => ?_) (fun f cdv A outer s H vs Q E hr h => ?_)
  · obtain ⟨x, d, rfl, _⟩ := h
    rfl
  obtain ⟨x, d, rfl, hd, hs, hl, q⟩ := h
  have nd := sc_is_gate.nd
  have c_is_name := cis_name
  refine ⟨_, (pss_cons (ps_if (pt_not (pt_val (pe_cl c_has_form hr (by decide) (by rfl) (pa_cons (pv 0) (pa_cons pe_str (pa_cons pe_int pa_nil)))))) (pss_one (ps_ret pe_bl)) pss_nil)
    (pss_one (ps_ret (pe_and (pe_cl c_is_name hr (by decide) (by rfl) (pa_cons (pe_ix (ix_tupK K) (pv 0) pe_int (fun _ _ => rfl)) pa_nil)) (pe_one (pe_or (pe_cmpR op_isN (pe_ix (ix_tupK K) (pv 0) pe_int (fun _ _ => rfl)) pe_non (by rfl)) (pe_one (pe_cl c_is_name hr (by decide) (by rfl) (pa_cons (pe_ix (ix_tupK K) (pv 0) pe_int (fun _ _ => rfl)) pa_nil))))))))), ?_⟩
  refine ⟨_, rfl, x, d, "gate", 2, rfl, hd, hs, by decide +kernel, ⟨_, rfl, ?_⟩⟩
  by_cases cf : formB d "gate" 3 = true
  rotate_left
  · refine yes (by rw [show formB d "gate" (2 + 1) = false from Bool.eq_false_iff.mpr cf]; decide) ?_
    have z := q _ (Same.refl H)
    unfold gateB at z
    rw [Bool.eq_false_iff.mpr cf] at z
    exact z
  refine no (by rw [show formB d "gate" (2 + 1) = true from cf]; decide) ?_
  obtain ⟨a, xs, y1, rfl, hx, hy1, hd1, hs1, hl1⟩ := part_at (i := 1) hd cf (by decide) hs hl
  obtain ⟨a', xs', y2, e', hx', hy2, hd2, hs2, hl2⟩ := part_at (i := 2) hd cf (by decide) hs hl
  cases e'
  refine ⟨_, rfl, a, _, _, y1, rfl, rfl, hx, at_of (j := 1) rfl hy1, y1, partD d 1, rfl, hd1, fun z e => ?_, fun H1 s1 => ⟨_, rfl, ?_⟩⟩
  · rw [e] at hl1
    exact hl1
  have z1 : ∀ H', Same H H' → Q (.bl (nameB (partD d 1) && (noneB (partD d 2) || nameB (partD d 2)))) H' := fun H' s' => by
    have z := q H' s'
    unfold gateB at z
    rw [cf, Bool.true_and] at z
    exact z
  by_cases c1 : nameB (partD d 1) = true
  rotate_left
  · refine no c1 ?_
    have z := z1 _ s1
    rw [Bool.eq_false_iff.mpr c1] at z
    exact z
  refine yes c1 ?_
  rw [c1, Bool.true_and] at z1
  refine ⟨_, rfl, a, _, _, y2, rfl, rfl, st_same s1 hx', at_of (j := 2) rfl hy2, rfl, _, rfl, ?_⟩
  rw [non_iff hd2]
  by_cases c2 : noneB (partD d 2) = true
  · refine yes c2 ?_
    have z := z1 _ s1
    rw [c2] at z
    exact z
  · refine no c2 ?_
    rw [Bool.eq_false_iff.mpr c2, Bool.false_or] at z1
    refine ⟨_, rfl, a, _, _, y2, rfl, rfl, st_same s1 hx', at_of (j := 2) rfl hy2, y2, partD d 2, rfl, dp_same s1 _ _ hd2, fun z e => ?_, fun H2 s2 => z1 _ (s1.trans s2)⟩
    rw [e] at hl2
    exact hl2
end
end Kin
namespace Kin
open PySem PySem.Spec PyProof.Rows L2 RZ
section
variable {P : Program} {w : World} {K : PySem.W.Frag} {mg : Str → Option Value} {base : Heap}
/-! _is_short_text -/
abbrev s_is_short_text : Stmt := topS 8
theorem sc_is_short_text : FnScope ["thing", "sign"] ["thing"] (defScope s_is_short_text) := ⟨rfl, rfl, rfl, by decide +kernel, rfl, by decide +kernel, by decide +kernel⟩
def shortB : PyData → Bool
  | .str z => decide (z.length ≤ 20) && z.cps.toList.all signB
  | _ => false
def sp_short (K : PySem.W.Frag) : Sp := fun vs H Q _ => ∃ (x : V) (d : PyData), vs = [x] ∧ Dp K H x d ∧ long d ≤ 1000 ∧ ∀ H', Same H H' → Q (.bl (shortB d)) H'
theorem ok_short (F : Def K mg "_is_short_text" ["thing"] s_is_short_text) (M : MB mg) (c_is_sign : Cl P w K mg base 1 "_is_sign" (sp_sign K)) : Cl P w K mg base 2 "_is_short_text" (sp_short K) := by
  refine F.cl sc_is_short_text (fun vs H Q E h => ?_) (fun f cdv A outer s H vs Q E hr h => ?_)
  · obtain ⟨x, d, rfl, _⟩ := h
    rfl
  obtain ⟨x, d, rfl, hd, hz, q⟩ := h
  have nd := sc_is_short_text.nd
  have m_isinstance := M.m_isinstance
  have m_str := M.m_str
  have m_len := M.m_len
  have m_all := M.m_all
  refine ⟨_, (pss_cons (ps_if (pt_not (pt_val (pe_callB (call_isiK' K) (by rfl) m_isinstance (by decide +kernel) (pa_cons (pv 0) (pa_cons (pe_bltn (v := .ty "str") (u := .type "str") (by rfl) m_str (by decide +kernel) rfl) pa_nil))))) (pss_one (ps_ret pe_bl)) pss_nil)
    (pss_one (ps_ret (pe_and (pe_cmpR op_le (pe_callB call_len_str (by rfl) m_len PySem.boot_len (pa_cons (pv 0) pa_nil)) pe_int (by rfl)) (pe_one (pe_callB (cr_allK K) (by rfl) m_all (by decide +kernel) (pa_cons (pe_lc (own := [("sign", 1)]) (g := gName 1) (tt := tYes) (by rfl) nd (pi_str (pv 0)) (blkOk_by (own := [("sign", 1)]) (N := ["thing", "sign"]) (sc := defScope s_is_short_text) (by decide +kernel)) (fun _ _ _ _ _ => (pg_name (i := 1) nd rfl (Or.inl rfl))) (fun _ _ _ _ _ => pts_nil) (fun _ _ _ _ _ => (pe_cl c_is_sign hr (by decide) (by rfl) (pa_cons (pv 1) pa_nil)))) pa_nil))))))), ?_⟩
  refine ⟨_, rfl, _, _, _, _, strB d, rfl, .ty _, dp_ty hd, kit_ty (kit_str d), ⟨_, rfl, ?_⟩⟩
  cases d with
  | str z =>
    refine no (by show ¬ (!true) = true; decide) ?_
    cases hd
    have hz : z.length ≤ 1000 := hz
    have z0 := q _ (Same.refl H)
    have hn : shortB (.str z) = (decide (z.length ≤ 20) && z.cps.toList.all signB) := rfl
    refine ⟨_, rfl, z, rfl, Nat.le_of_lt (small1000 hz), _, _, rfl, rfl, _, rfl, ?_⟩
    by_cases c1 : z.length ≤ 20
    rotate_left
    · refine no (by rw [decide_eq_false (by omega)]; decide) ?_
      rw [hn, decide_eq_false c1, Bool.false_and] at z0
      exact z0
    refine yes (decide_eq_true (by omega)) ?_
    refine ⟨_, rfl, z, rfl, fun D nD => lc_str (x := z) (fun i H' => Same H H' ∧ H' D = some (.lst (((z.cps.toList.take i).map signB).map V.bl))) ?_ ?_ ?_⟩
    · exact ⟨same_new nD, upd_same⟩
    · rintro i c H' hc ⟨sm, hD⟩
      have hi := (List.getElem?_eq_some_iff.mp hc).1
      have hzs : z.cps.toList.length = z.length := Array.length_toList
      refine ⟨rfl, ?_⟩
      refine ⟨_, rfl, c, rfl, _, hD, ?_, same_mut sm nD, ?_⟩
      · rw [List.length_map, List.length_map, List.length_take, hzs]
        exact small1000 (by omega)
      · rw [upd_same, List.take_add_one, hc, List.map_append, List.map_append]
        rfl
    · rintro H' ⟨sm, hD⟩
      rw [show z.cps.size = z.cps.toList.length from Array.length_toList.symm, List.take_length] at hD
      have z1 := q _ sm
      rw [hn, decide_eq_true c1, Bool.true_and] at z1
      refine ⟨D, _, rfl, SqL.of hD, ?_⟩
      rw [List.all_map]
      exact z1
  | _ =>
    refine yes (by show (!false) = true; decide) ?_
    exact q _ (Same.refl H)
/-! is_plain -/
abbrev s_is_plain : Stmt := topS 3
theorem sc_is_plain : FnScope ["thing"] ["thing"] (defScope s_is_plain) := ⟨rfl, rfl, rfl, by decide +kernel, rfl, by decide +kernel, by decide +kernel⟩
def rangeB : PyData → Bool
  | .int n => decide (-(10 ^ 9) ≤ n) && decide (n ≤ 10 ^ 9)
  | _ => false
def plainB (d : PyData) : Bool := if (formB d "none" 1 || formB d "not" 1) = true then true else if formB d "truth" 2 = true then boolB (partD d 1) else if formB d "number" 2 = true then wholeB (partD d 1) && rangeB (partD d 1) else formB d "text" 2 && shortB (partD d 1)
def sp_plain (K : PySem.W.Frag) : Sp := fun vs H Q _ => ∃ (x : V) (d : PyData), vs = [x] ∧ Dp K H x d ∧ SeqAt.shaped d = true ∧ long d ≤ 1000 ∧ ∀ H', Same H H' → Q (.bl (plainB d)) H'
theorem ok_plain (F : Def K mg "is_plain" ["thing"] s_is_plain) (M : MB mg) (c_has_form : Cl P w K mg base 1 "_has_form" (sp_form K)) (c_is_whole : Cl P w K mg base 1 "is_whole" (sp_whole K)) (c_is_short_text : Cl P w K mg base 2 "_is_short_text" (sp_short K)) : Cl P w K mg base 3 "is_plain" (sp_plain K) := by
  refine F.cl sc_is_plain (fun vs H Q E h => ?_) (fun f cdv A outer s H vs Q E hr h => ?_)
  · obtain ⟨x, d, rfl, _⟩ := h
    rfl
  obtain ⟨x, d, rfl, hd, hs, hl, q⟩ := h
  have nd := sc_is_plain.nd
  have m_isinstance := M.m_isinstance
  have m_bool := M.m_bool
  have z := q _ (Same.refl H)
  refine ⟨_, (pss_cons (ps_if (PW.pt (pw_or (pt_val (pe_cl c_has_form hr (by decide) (by rfl) (pa_cons (pv 0) (pa_cons pe_str (pa_cons pe_int pa_nil))))) (pw_or1 (pt_val (pe_cl c_has_form hr (by decide) (by rfl) (pa_cons (pv 0) (pa_cons pe_str (pa_cons pe_int pa_nil)))))))) (pss_one (ps_ret pe_bl)) pss_nil)
    (pss_cons (ps_if (pt_val (pe_cl c_has_form hr (by decide) (by rfl) (pa_cons (pv 0) (pa_cons pe_str (pa_cons pe_int pa_nil))))) (pss_one (ps_ret (pe_callB (call_isiK' K) (by rfl) m_isinstance (by decide +kernel) (pa_cons (pe_ix (ix_tupK K) (pv 0) pe_int (fun _ _ => rfl)) (pa_cons (pe_bltn (v := .ty "bool") (u := .type "bool") (by rfl) m_bool (by decide +kernel) rfl) pa_nil))))) pss_nil)
    (pss_cons (ps_if (pt_val (pe_cl c_has_form hr (by decide) (by rfl) (pa_cons (pv 0) (pa_cons pe_str (pa_cons pe_int pa_nil))))) (pss_one (ps_ret (pe_and (pe_cl c_is_whole hr (by decide) (by rfl) (pa_cons (pe_ix (ix_tupK K) (pv 0) pe_int (fun _ _ => rfl)) pa_nil)) (pe_one (pe_chain op_le op_le (pe_un un_neg (pe_op op_pow pe_int pe_int)) (pe_ix (ix_tupK K) (pv 0) pe_int (fun _ _ => rfl)) (pe_op op_pow pe_int pe_int)))))) pss_nil)
    (pss_one (ps_ret (pe_and (pe_cl c_has_form hr (by decide) (by rfl) (pa_cons (pv 0) (pa_cons pe_str (pa_cons pe_int pa_nil)))) (pe_one (pe_cl c_is_short_text hr (by decide) (by rfl) (pa_cons (pe_ix (ix_tupK K) (pv 0) pe_int (fun _ _ => rfl)) pa_nil))))))))), ?_⟩
  refine ⟨_, rfl, x, d, "none", 0, rfl, hd, hs, by decide +kernel, ⟨_, rfl, ?_⟩⟩
  have out : ∀ H' b, Same H H' → plainB d = b → Q (.bl b) H' := fun H' b s e => by rw [← e]; exact q H' s
  by_cases c1 : formB d "none" (0 + 1) = true
  · refine yes c1 ?_
    exact out _ _ (Same.refl H) (by unfold plainB; rw [if_pos (by rw [show formB d "none" 1 = true from c1]; rfl)])
  refine no c1 ?_
  refine ⟨_, rfl, x, d, "not", 0, rfl, hd, hs, by decide +kernel, ⟨_, rfl, ?_⟩⟩
  by_cases c2 : formB d "not" (0 + 1) = true
  · refine yes c2 ?_
    exact out _ _ (Same.refl H) (by unfold plainB; rw [if_pos (by rw [show formB d "not" 1 = true from c2, Bool.or_true])])
  refine no c2 ?_
  have n12 : ¬ (formB d "none" 1 || formB d "not" 1) = true := fun h => (Bool.or_eq_true_iff.mp h).elim c1 c2
  refine ⟨_, rfl, x, d, "truth", 1, rfl, hd, hs, by decide +kernel, ⟨_, rfl, ?_⟩⟩
  by_cases c3 : formB d "truth" (1 + 1) = true
  · refine yes c3 ?_
    obtain ⟨a, xs, y1, rfl, hx, hy1, hd1, hs1, hl1⟩ := part_at (i := 1) hd c3 (by decide) hs hl
    refine ⟨_, rfl, a, _, _, y1, rfl, rfl, hx, at_of (j := 1) rfl hy1, _, _, _, _, boolB (partD d 1), rfl, .ty _, dp_ty hd1, kit_ty (kit_bool _), ?_⟩
    exact out _ _ (Same.refl H) (by unfold plainB; rw [if_neg n12, if_pos c3])
  refine no c3 ?_
  refine ⟨_, rfl, x, d, "number", 1, rfl, hd, hs, by decide +kernel, ⟨_, rfl, ?_⟩⟩
  by_cases c4 : formB d "number" (1 + 1) = true
  · refine yes c4 ?_
    obtain ⟨a, xs, y1, rfl, hx, hy1, hd1, hs1, hl1⟩ := part_at (i := 1) hd c4 (by decide) hs hl
    have e4 : plainB d = (wholeB (partD d 1) && rangeB (partD d 1)) := by unfold plainB; rw [if_neg n12, if_neg c3, if_pos c4]
    refine ⟨_, rfl, a, _, _, y1, rfl, rfl, hx, at_of (j := 1) rfl hy1, y1, partD d 1, rfl, hd1, _, rfl, ?_⟩
    by_cases c5 : wholeB (partD d 1) = true
    rotate_left
    · refine no c5 ?_
      exact out _ _ (Same.refl H) (by rw [e4, Bool.eq_false_iff.mpr c5, Bool.false_and])
    refine yes c5 ?_
    obtain ⟨n, hn⟩ : ∃ n, partD d 1 = .int n := by
      cases e : partD d 1 with
      | int n => exact ⟨n, rfl⟩
      | _ => rw [e] at c5; cases c5
    rw [hn] at hd1 e4
    cases hd1
    have e5 : plainB d = (decide (-(10 ^ 9) ≤ n) && decide (n ≤ 10 ^ 9)) := by rw [e4]; rfl
    refine ⟨_, _, rfl, rfl, ⟨by decide, by decide, by decide⟩, _, rfl, ?_⟩
    refine ⟨_, rfl, a, _, _, .int n, rfl, rfl, hx, at_of (j := 1) rfl hy1, _, _, rfl, rfl, _, rfl, ?_⟩
    show (if decide (-(10 ^ 9) ≤ n) = true then _ else _)
    by_cases c7 : -(10 ^ 9) ≤ n
    · refine yes (decide_eq_true c7) ?_
      refine ⟨_, _, rfl, rfl, ⟨by decide, by decide, by decide⟩, _, _, rfl, rfl, ?_⟩
      exact out _ _ (Same.refl H) (by rw [e5, decide_eq_true c7, Bool.true_and]; rfl)
    · refine no (by rw [decide_eq_false c7]; decide) ?_
      exact out _ _ (Same.refl H) (by rw [e5, decide_eq_false c7, Bool.false_and])
  refine no c4 ?_
  refine ⟨_, rfl, x, d, "text", 1, rfl, hd, hs, by decide +kernel, ⟨_, rfl, ?_⟩⟩
  have e6 : plainB d = (formB d "text" 2 && shortB (partD d 1)) := by unfold plainB; rw [if_neg n12, if_neg c3, if_neg c4]
  by_cases c6 : formB d "text" (1 + 1) = true
  rotate_left
  · refine no c6 ?_
    exact out _ _ (Same.refl H) (by rw [e6, Bool.eq_false_iff.mpr c6, Bool.false_and])
  refine yes c6 ?_
  obtain ⟨a, xs, y1, rfl, hx, hy1, hd1, hs1, hl1⟩ := part_at (i := 1) hd c6 (by decide) hs hl
  exact ⟨_, rfl, a, _, _, y1, rfl, rfl, hx, at_of (j := 1) rfl hy1, y1, partD d 1, rfl, hd1, hl1, fun H' s' => out _ _ s' (by rw [e6, show formB d "text" 2 = true from c6, Bool.true_and])⟩
/-! _is_unbound -/
abbrev s_is_unbound : Stmt := topS 5
theorem sc_is_unbound : FnScope ["thing"] ["thing"] (defScope s_is_unbound) := ⟨rfl, rfl, rfl, by decide +kernel, rfl, by decide +kernel, by decide +kernel⟩
def natB : PyData → Bool
  | .int n => decide (n ≥ 0)
  | _ => false
def unboundB (d : PyData) : Bool := if (formB d "kind" 2 || formB d "deed" 2) = true then nameB (partD d 1) else if formB d "thing" 2 = true then wholeB (partD d 1) && natB (partD d 1) else plainB d || gateB d
def sp_unbound (K : PySem.W.Frag) : Sp := fun vs H Q _ => ∃ (x : V) (d : PyData), vs = [x] ∧ Dp K H x d ∧ SeqAt.shaped d = true ∧ long d ≤ 1000 ∧ ∀ H', Same H H' → Q (.bl (unboundB d)) H'
theorem ok_unbound (F : Def K mg "_is_unbound" ["thing"] s_is_unbound) (c_has_form : Cl P w K mg base 1 "_has_form" (sp_form K)) (c_is_whole : Cl P w K mg base 1 "is_whole" (sp_whole K)) (c_is_name : Cl P w K mg base 1 "is_name" (sp_name K)) (c_is_plain : Cl P w K mg base 3 "is_plain" (sp_plain K)) (c_is_gate : Cl P w K mg base 2 "_is_gate" (sp_gate K)) : Cl P w K mg base 4 "_is_unbound" (sp_unbound K) := by
  refine F.cl sc_is_unbound (fun vs H Q E h => ?_) (fun f cdv A outer s H vs Q E hr h => ?_)
  · obtain ⟨x, d, rfl, _⟩ := h
    rfl
  obtain ⟨x, d, rfl, hd, hs, hl, q⟩ := h
  have nd := sc_is_unbound.nd
  refine ⟨_, (pss_cons (ps_if (PW.pt (pw_or (pt_val (pe_cl c_has_form hr (by decide) (by rfl) (pa_cons (pv 0) (pa_cons pe_str (pa_cons pe_int pa_nil))))) (pw_or1 (pt_val (pe_cl c_has_form hr (by decide) (by rfl) (pa_cons (pv 0) (pa_cons pe_str (pa_cons pe_int pa_nil)))))))) (pss_one (ps_ret (pe_cl c_is_name hr (by decide) (by rfl) (pa_cons (pe_ix (ix_tupK K) (pv 0) pe_int (fun _ _ => rfl)) pa_nil)))) pss_nil)
    (pss_cons (ps_if (pt_val (pe_cl c_has_form hr (by decide) (by rfl) (pa_cons (pv 0) (pa_cons pe_str (pa_cons pe_int pa_nil))))) (pss_one (ps_ret (pe_and (pe_cl c_is_whole hr (by decide) (by rfl) (pa_cons (pe_ix (ix_tupK K) (pv 0) pe_int (fun _ _ => rfl)) pa_nil)) (pe_one (pe_cmpR op_ge (pe_ix (ix_tupK K) (pv 0) pe_int (fun _ _ => rfl)) pe_int (by rfl)))))) pss_nil)
    (pss_one (ps_ret (pe_or (pe_cl c_is_plain hr (by decide) (by rfl) (pa_cons (pv 0) pa_nil)) (pe_one (pe_cl c_is_gate hr (by decide) (by rfl) (pa_cons (pv 0) pa_nil)))))))), ?_⟩
  have out : ∀ H' b, Same H H' → unboundB d = b → Q (.bl b) H' := fun H' b s e => by rw [← e]; exact q H' s
  have named : ∀ {w : Str}, formB d w 2 = true → (formB d "kind" 2 || formB d "deed" 2) = true → ∃ (a : Addr) (xs : List V) (y1 : V), x = .ref a ∧ SqT K H a xs ∧ xs[1]? = some y1 ∧ Dp K H y1 (partD d 1) ∧ (∀ z, partD d 1 = .str z → z.length ≤ 1000) ∧ unboundB d = nameB (partD d 1) := fun {w} hf he => by
    obtain ⟨a, xs, y1, e, hx, hy1, hd1, hs1, hl1⟩ := part_at (i := 1) hd hf (by decide) hs hl
    refine ⟨a, xs, y1, e, hx, hy1, hd1, fun z e => ?_, by unfold unboundB; rw [if_pos he]⟩
    rw [e] at hl1
    exact hl1
  refine ⟨_, rfl, x, d, "kind", 1, rfl, hd, hs, by decide +kernel, ⟨_, rfl, ?_⟩⟩
  by_cases c1 : formB d "kind" (1 + 1) = true
  · refine yes c1 ?_
    obtain ⟨a, xs, y1, rfl, hx, hy1, hd1, hz, e⟩ := named c1 (by rw [show formB d "kind" 2 = true from c1]; rfl)
    exact ⟨_, rfl, a, _, _, y1, rfl, rfl, hx, at_of (j := 1) rfl hy1, y1, partD d 1, rfl, hd1, hz, fun H' s' => out _ _ s' e⟩
  refine no c1 ?_
  refine ⟨_, rfl, x, d, "deed", 1, rfl, hd, hs, by decide +kernel, ⟨_, rfl, ?_⟩⟩
  by_cases c2 : formB d "deed" (1 + 1) = true
  · refine yes c2 ?_
    obtain ⟨a, xs, y1, rfl, hx, hy1, hd1, hz, e⟩ := named c2 (by rw [show formB d "deed" 2 = true from c2, Bool.or_true])
    exact ⟨_, rfl, a, _, _, y1, rfl, rfl, hx, at_of (j := 1) rfl hy1, y1, partD d 1, rfl, hd1, hz, fun H' s' => out _ _ s' e⟩
  refine no c2 ?_
  have n12 : ¬ (formB d "kind" 2 || formB d "deed" 2) = true := fun h => (Bool.or_eq_true_iff.mp h).elim c1 c2
  refine ⟨_, rfl, x, d, "thing", 1, rfl, hd, hs, by decide +kernel, ⟨_, rfl, ?_⟩⟩
  by_cases c4 : formB d "thing" (1 + 1) = true
  · refine yes c4 ?_
    obtain ⟨a, xs, y1, rfl, hx, hy1, hd1, hs1, hl1⟩ := part_at (i := 1) hd c4 (by decide) hs hl
    have e4 : unboundB d = (wholeB (partD d 1) && natB (partD d 1)) := by unfold unboundB; rw [if_neg n12, if_pos c4]
    refine ⟨_, rfl, a, _, _, y1, rfl, rfl, hx, at_of (j := 1) rfl hy1, y1, partD d 1, rfl, hd1, _, rfl, ?_⟩
    by_cases c5 : wholeB (partD d 1) = true
    rotate_left
    · refine no c5 ?_
      exact out _ _ (Same.refl H) (by rw [e4, Bool.eq_false_iff.mpr c5, Bool.false_and])
    refine yes c5 ?_
    obtain ⟨n, hn⟩ : ∃ n, partD d 1 = .int n := by
      cases e : partD d 1 with
      | int n => exact ⟨n, rfl⟩
      | _ => rw [e] at c5; cases c5
    rw [hn] at hd1 e4
    cases hd1
    refine ⟨_, rfl, a, _, _, .int n, rfl, rfl, hx, at_of (j := 1) rfl hy1, _, _, rfl, rfl, ?_⟩
    exact out _ _ (Same.refl H) (by rw [e4]; rfl)
  refine no c4 ?_
  have e6 : unboundB d = (plainB d || gateB d) := by unfold unboundB; rw [if_neg n12, if_neg c4]
  refine ⟨_, rfl, x, d, rfl, hd, hs, hl, fun H1 s1 => ⟨_, rfl, ?_⟩⟩
  by_cases c6 : plainB d = true
  · refine yes c6 ?_
    exact out _ _ s1 (by rw [e6, c6]; rfl)
  · refine no c6 ?_
    exact ⟨_, rfl, x, d, rfl, dp_same s1 _ _ hd, hs, hl, fun H2 s2 => out _ _ (s1.trans s2) (by rw [e6, Bool.eq_false_iff.mpr c6, Bool.false_or])⟩
/-! is_worth -/
abbrev s_is_worth : Stmt := topS 4
theorem sc_is_worth : FnScope ["thing"] ["thing"] (defScope s_is_worth) := ⟨rfl, rfl, rfl, by decide +kernel, rfl, by decide +kernel, by decide +kernel⟩
def worthB (d : PyData) : Bool := if formB d "bound" 4 = true then nameB (partD d 1) && (nameB (partD d 2) && unboundB (partD d 3)) else unboundB d
def sp_worth (K : PySem.W.Frag) : Sp := fun vs H Q _ => ∃ (x : V) (d : PyData), vs = [x] ∧ Dp K H x d ∧ SeqAt.shaped d = true ∧ long d ≤ 1000 ∧ ∀ H', Same H H' → Q (.bl (worthB d)) H'
theorem ok_worth (F : Def K mg "is_worth" ["thing"] s_is_worth) (c_has_form : Cl P w K mg base 1 "_has_form" (sp_form K)) (c_is_name : Cl P w K mg base 1 "is_name" (sp_name K)) (c_is_unbound : Cl P w K mg base 4 "_is_unbound" (sp_unbound K)) : Cl P w K mg base 5 "is_worth" (sp_worth K) := by
  refine F.cl sc_is_worth (fun vs H Q E h => ?_) (fun f cdv A outer s H vs Q E hr h => ?_)
  · obtain ⟨x, d, rfl, _⟩ := h
    rfl
  obtain ⟨x, d, rfl, hd, hs, hl, q⟩ := h
  have nd := sc_is_worth.nd
  refine ⟨_, (pss_cons (ps_if (pt_not (pt_val (pe_cl c_has_form hr (by decide) (by rfl) (pa_cons (pv 0) (pa_cons pe_str (pa_cons pe_int pa_nil)))))) (pss_one (ps_ret (pe_cl c_is_unbound hr (by decide) (by rfl) (pa_cons (pv 0) pa_nil)))) pss_nil)
    (pss_one (ps_ret (pe_and (pe_cl c_is_name hr (by decide) (by rfl) (pa_cons (pe_ix (ix_tupK K) (pv 0) pe_int (fun _ _ => rfl)) pa_nil)) (pe_and (pe_cl c_is_name hr (by decide) (by rfl) (pa_cons (pe_ix (ix_tupK K) (pv 0) pe_int (fun _ _ => rfl)) pa_nil)) (pe_one (pe_cl c_is_unbound hr (by decide) (by rfl) (pa_cons (pe_ix (ix_tupK K) (pv 0) pe_int (fun _ _ => rfl)) pa_nil)))))))), ?_⟩
  have out : ∀ H' b, Same H H' → worthB d = b → Q (.bl b) H' := fun H' b s e => by rw [← e]; exact q H' s
  refine ⟨_, rfl, x, d, "bound", 3, rfl, hd, hs, by decide +kernel, ⟨_, rfl, ?_⟩⟩
  by_cases cf : formB d "bound" (3 + 1) = true
  rotate_left
  · refine yes (by rw [Bool.eq_false_iff.mpr cf]; decide) ?_
    exact ⟨_, rfl, x, d, rfl, hd, hs, hl, fun H' s' => out _ _ s' (by unfold worthB; rw [if_neg cf])⟩
  refine no (by rw [cf]; decide) ?_
  have e0 : worthB d = (nameB (partD d 1) && (nameB (partD d 2) && unboundB (partD d 3))) := by unfold worthB; rw [if_pos cf]
  obtain ⟨a, xs, y1, rfl, hx, hy1, hd1, hs1, hl1⟩ := part_at (i := 1) hd cf (by decide) hs hl
  obtain ⟨a2, xs2, y2, e2, hx2, hy2, hd2, hs2, hl2⟩ := part_at (i := 2) hd cf (by decide) hs hl
  obtain ⟨a3, xs3, y3, e3, hx3, hy3, hd3, hs3, hl3⟩ := part_at (i := 3) hd cf (by decide) hs hl
  cases e2
  cases e3
  refine ⟨_, rfl, a, _, _, y1, rfl, rfl, hx, at_of (j := 1) rfl hy1, y1, partD d 1, rfl, hd1, fun z e => ?_, fun H1 s1 => ⟨_, rfl, ?_⟩⟩
  · rw [e] at hl1
    exact hl1
  by_cases c1 : nameB (partD d 1) = true
  rotate_left
  · exact no c1 (out _ _ s1 (by rw [e0, Bool.eq_false_iff.mpr c1, Bool.false_and]))
  refine yes c1 ?_
  refine ⟨_, rfl, a, _, _, y2, rfl, rfl, st_same s1 hx2, at_of (j := 2) rfl hy2, y2, partD d 2, rfl, dp_same s1 _ _ hd2, fun z e => ?_, fun H2 s2 => ⟨_, rfl, ?_⟩⟩
  · rw [e] at hl2
    exact hl2
  have s12 := s1.trans s2
  by_cases c2 : nameB (partD d 2) = true
  rotate_left
  · exact no c2 (out _ _ s12 (by rw [e0, Bool.eq_false_iff.mpr c2, Bool.false_and, Bool.and_false]))
  refine yes c2 ?_
  exact ⟨_, rfl, a, _, _, y3, rfl, rfl, st_same s12 hx3, at_of (j := 3) rfl hy3, y3, partD d 3, rfl, dp_same s12 _ _ hd3, hs3, hl3, fun H3 s3 => out _ _ (s12.trans s3) (by rw [e0, c1, c2, Bool.true_and, Bool.true_and])⟩
end
end Kin
namespace Kin
open PySem PySem.Spec PyProof.Rows L2 RZ
theorem lt1 {a c : Nat} : (([a] : List Nat) < [c]) ↔ a < c := by
  constructor
  · intro h
    rcases h with _ | h | h
    · assumption
    · cases h
  · intro h
    exact .rel h
theorem mem_small {c : Nat} : c ∈ small.cps.toList ↔ 97 ≤ c ∧ c ≤ 122 := by
  have e : small.cps.toList = (List.range 26).map letter := rfl
  rw [e, List.mem_map]
  constructor
  · rintro ⟨i, _, rfl⟩
    exact letter_rng i
  · rintro ⟨h1, h2⟩
    refine ⟨c - 97, List.mem_range.mpr (by omega), ?_⟩
    unfold letter
    omega
theorem small_bool (c : Nat) : decide (c ∈ small.cps.toList) = (!decide (([c] : List Nat) < [97]) && !decide (([122] : List Nat) < [c])) := by
  rw [Bool.eq_iff_iff, decide_eq_true_iff, mem_small, Bool.and_eq_true, Bool.not_eq_true', Bool.not_eq_true', decide_eq_false_iff_not, decide_eq_false_iff_not, lt1, lt1]
  omega
section
variable {P : Program} {w : World} {K : PySem.W.Frag} {mg : Str → Option Value} {base : Heap}
/-! _law_is_name -/
abbrev s_law_is_name : Stmt := topS 21
theorem sc_law_is_name : FnScope ["thing", "sign"] ["thing"] (defScope s_law_is_name) := ⟨rfl, rfl, rfl, by decide +kernel, rfl, by decide +kernel, by decide +kernel⟩
def sp_lname (K : PySem.W.Frag) : Sp := fun vs H Q _ => ∃ (x : V) (d : PyData), vs = [x] ∧ Dp K H x d ∧ SeqAt.shaped d = true ∧ long d ≤ 1000 ∧ ∀ H', Same H H' → Q (.bl (nameB d)) H'
theorem ok_cp {z : Str} (h : SeqAt.shaped (.str z) = true) : PyData.strOk z = true := by
  unfold SeqAt.shaped at h
  rw [Bool.and_eq_true] at h
  exact h.1
theorem ok_lname (F : Def K mg "_law_is_name" ["thing"] s_law_is_name) (M : MB mg) : Cl P w K mg base 1 "_law_is_name" (sp_lname K) := by
  refine F.cl sc_law_is_name (fun vs H Q E h => ?_) (fun f cdv A outer s H vs Q E hr h => ?_)
  · obtain ⟨x, d, rfl, _⟩ := h
    rfl
  obtain ⟨x, d, rfl, hd, hsh, hz, q⟩ := h
  have nd := sc_law_is_name.nd
  have m_isinstance := M.m_isinstance
  have m_str := M.m_str
  have m_len := M.m_len
  refine ⟨_, (pss_cons (ps_if (PW.pt (pw_or (pt_not (pt_val (pe_callB (call_isiK' K) (by rfl) m_isinstance (by decide +kernel) (pa_cons (pv 0) (pa_cons (pe_bltn (v := .ty "str") (u := .type "str") (by rfl) m_str (by decide +kernel) rfl) pa_nil))))) (pw_or1 (pt_not (pt_chain op_lt op_lt pe_int (pe_callB call_len_str (by rfl) m_len PySem.boot_len (pa_cons (pv 0) pa_nil)) pe_int))))) (pss_one (ps_ret pe_bl)) pss_nil)
    (pss_one (ps_ret (pe_cmpR (op_eqK K hr.units) (pe_lc (own := [("sign", 1)]) (g := gName 1) (by rfl) nd (pi_str (pv 0)) (blkOk_by (own := [("sign", 1)]) (N := ["thing", "sign"]) (sc := defScope s_law_is_name) (by decide +kernel)) (fun _ _ _ _ _ => (pg_name (i := 1) nd rfl (Or.inl rfl))) (fun _ _ _ _ _ => (pts_one (pt_cmpR op_notIn_sign (pv 1) pe_str (by rfl)))) (fun _ _ _ _ _ => (pv 1))) (pe_lst pa_nil) (by rfl))))), ?_⟩
  rw [small_eq]
  refine ⟨_, rfl, _, _, _, _, strB d, rfl, .ty _, dp_ty hd, kit_ty (kit_str d), ⟨_, rfl, ?_⟩⟩
  cases d with
  | str z =>
    refine no (by show ¬ (!true) = true; decide) ?_
    cases hd
    have hz : z.length ≤ 1000 := hz
    have z0 := q _ (Same.refl H)
    have hn : nameB (.str z) = ((decide (1 ≤ z.length) && decide (z.length ≤ 8)) && signsB z) := rfl
    refine ⟨_, rfl, z, rfl, Nat.le_of_lt (small1000 hz), _, _, rfl, rfl, _, rfl, ?_⟩
    by_cases c1 : 1 ≤ z.length
    rotate_left
    · refine no (by rw [decide_eq_false (by omega)]; decide) ?_
      rw [hn, decide_eq_false c1, Bool.false_and, Bool.false_and] at z0
      exact ⟨_, rfl, yes (by decide) z0⟩
    refine yes (decide_eq_true (by omega)) ?_
    refine ⟨_, _, rfl, rfl, _, rfl, ?_⟩
    by_cases c2 : z.length ≤ 8
    rotate_left
    · refine yes (by rw [decide_eq_false (by omega)]; decide) ?_
      rw [hn, decide_eq_false c2, Bool.and_false, Bool.false_and] at z0
      exact z0
    refine no (by rw [decide_eq_true (by omega)]; decide) ?_
    have odd : List Nat → List Nat := List.filter fun c => !decide (c ∈ small.cps.toList)
    refine ⟨_, rfl, z, rfl, fun D nD => lc_str (x := z) (fun i H' => Same H H' ∧ H' D = some (.lst ((((z.cps.toList.take i).filter fun c => !decide (c ∈ small.cps.toList)).map fun c => mk [c]).map V.str))) ?_ ?_ ?_⟩
    · exact ⟨same_new nD, upd_same⟩
    · rintro i c H' hc ⟨sm, hD⟩
      have hi := (List.getElem?_eq_some_iff.mp hc).1
      have hzs : z.cps.toList.length = z.length := Array.length_toList
      refine ⟨rfl, ?_⟩
      refine ⟨_, rfl, c, small, rfl, rfl, _, rfl, ?_⟩
      by_cases cs : c ∈ small.cps.toList
      · refine no (by rw [decide_eq_true cs]; decide) ?_
        refine ⟨sm, ?_⟩
        rw [List.take_add_one, hc, List.filter_append]
        show _ = some (HO.lst (((_ ++ [c].filter _).map _).map _))
        rw [List.filter_cons, if_neg (by rw [decide_eq_true cs]; decide), List.filter_nil, List.append_nil]
        exact hD
      · refine yes (by rw [decide_eq_false cs]; decide) ?_
        refine ⟨_, rfl, _, hD, ?_, same_mut sm nD, ?_⟩
        · rw [List.length_map, List.length_map]
          have l1 := List.length_filter_le (fun c => !decide (c ∈ small.cps.toList)) (z.cps.toList.take i)
          rw [List.length_take] at l1
          exact small1000 (by omega)
        · rw [upd_same, List.take_add_one, hc, List.filter_append]
          show _ = some (HO.lst (((_ ++ [c].filter _).map _).map _))
          rw [List.filter_cons, if_pos (by rw [decide_eq_false cs]; decide), List.filter_nil, List.map_append, List.map_append]
          rfl
    · rintro H' ⟨sm, hD⟩
      rw [show z.cps.size = z.cps.toList.length from Array.length_toList.symm, List.take_length] at hD
      refine ⟨(by show 0 ≤ sizeLine; decide), fun l nl => ?_⟩
      generalize hos : z.cps.toList.filter (fun c => !decide (c ∈ small.cps.toList)) = os at hD
      have sl : Same H' (upd H' l (.lst [])) := same_new nl
      refine ⟨.list ((os.map fun c => mk [c]).map PyData.str), .list [], .lst (SqL.of (sl _ _ hD)) (dp_strs _), .lst (SqL.of upd_same) .nil, ?_, by decide +kernel, ?_⟩
      · refine shaped_strs fun x hx => ?_
        obtain ⟨c, hc, rfl⟩ := List.mem_map.mp hx
        rw [← hos] at hc
        have h1 := ok_cp hsh
        unfold PyData.strOk at h1 ⊢
        rw [← Array.all_toList, List.all_eq_true] at h1 ⊢
        intro c' hc'
        rw [List.mem_singleton.mp (show c' ∈ [c] from hc')]
        exact h1 c (List.mem_filter.mp hc).1
      have e : PyData.eqv (.list ((os.map fun c => mk [c]).map PyData.str)) (.list []) = decide (os = []) := by
        cases os <;> rfl
      rw [e]
      have z1 := q _ (sm.trans sl)
      have e2 : signsB z = decide (os = []) := by
        rw [← hos]
        unfold signsB
        rw [Bool.eq_iff_iff, List.all_eq_true, decide_eq_true_iff, List.filter_eq_nil_iff]
        constructor
        · intro h c hc
          rw [small_bool, h c hc]
          decide
        · intro h c hc
          have h2 := h c hc
          rw [small_bool] at h2
          cases e3 : (!decide (([c] : List Nat) < [97]) && !decide (([122] : List Nat) < [c])) with
          | true => rfl
          | false => rw [e3] at h2; exact absurd rfl h2
      rw [hn, decide_eq_true c1, decide_eq_true c2, Bool.true_and, Bool.true_and, e2] at z1
      exact z1
  | _ =>
    refine yes (by show (!false) = true; decide) ?_
    exact yes rfl (q _ (Same.refl H))
theorem eqv_str {d : PyData} {w : Str} : PyData.eqv d (.str w) = true ↔ d = .str w := by
  cases d with
  | str z =>
    show (z == w) = true ↔ _
    rw [beq_iff_eq]
    exact ⟨fun e => by rw [e], fun e => PyData.str.inj e⟩
  | _ => exact ⟨(fun h => nomatch h), (fun h => nomatch h)⟩
theorem eqvB (z w : Str) : PyData.eqv (.str z) (.str w) = decide (z = w) := by
  by_cases e : z = w
  · rw [e, decide_eq_true rfl]
    exact eqv_str.mpr rfl
  · rw [decide_eq_false e, Bool.eq_false_iff]
    intro h
    exact e (PyData.str.inj (eqv_str.mp h))
mutual
/-- all signs of all texts within are such as texts have -/
def sgn : PyData → Bool
  | .str x => x.cps.toList.all signB
  | .list ds => sgnAll ds
  | .tuple ds => sgnAll ds
  | _ => true
def sgnAll : List PyData → Bool
  | [] => true
  | d :: t => sgn d && sgnAll t
end
theorem plain0 {d : PyData} (h : ∀ ds, d ≠ .tuple ds) : plainB d = false := by
  cases d with
  | tuple ds => exact absurd rfl (h ds)
  | _ => rfl
theorem plain_nil : plainB (.tuple []) = false := rfl
theorem plain1 (d0 : PyData) : plainB (.tuple [d0]) = (PyData.eqv d0 (.str "none") || PyData.eqv d0 (.str "not")) := by
  unfold plainB formB
  simp
theorem plain2 (d0 d1 : PyData) : plainB (.tuple [d0, d1]) = if PyData.eqv d0 (.str "truth") = true then boolB d1 else if PyData.eqv d0 (.str "number") = true then wholeB d1 && rangeB d1 else PyData.eqv d0 (.str "text") && shortB d1 := by
  unfold plainB formB partD
  simp
theorem plain3 (d0 d1 d2 : PyData) (t : List PyData) : plainB (.tuple (d0 :: d1 :: d2 :: t)) = false := by
  unfold plainB formB
  simp
end
end Kin
namespace Kin
open PySem PySem.Spec PyProof.Rows L2 RZ
theorem strV_eq (z w : Str) : decide (V.str z = V.str w) = decide (z = w) := by
  by_cases e : z = w
  · rw [e, decide_eq_true rfl, decide_eq_true rfl]
  · rw [decide_eq_false e, decide_eq_false fun h => e (V.str.inj h)]
theorem eqv_other {d : PyData} {w : Str} (h : strB d = false) : PyData.eqv d (.str w) = false := by
  cases d with
  | str z => cases h
  | _ => rfl
theorem kit_non (s : String) (h : kitB "str" s = some false) (z : Str) : kitB (tyN (.str z)) s = some false := h
theorem shaped_at {ds : List PyData} {i : Nat} {d : PyData} (h : SeqAt.shaped (.tuple ds) = true) (e : ds[i]? = some d) : SeqAt.shaped d = true := shaped_mem h (List.mem_of_getElem? e)
theorem sgn_mem : ∀ {ds : List PyData} {d : PyData}, sgnAll ds = true → d ∈ ds → sgn d = true
  | [], _, _, h => nomatch h
  | e :: t, d, h, hm => by
    have h : (sgn e && sgnAll t) = true := h
    rw [Bool.and_eq_true] at h
    rcases List.mem_cons.mp hm with c | c
    · rw [c]; exact h.1
    · exact sgn_mem h.2 c
theorem short_of {d : PyData} (h : sgn d = true) : shortB d = match d with | .str z => decide (z.length ≤ 20) | _ => false := by
  cases d with
  | str z =>
    show (decide (z.length ≤ 20) && z.cps.toList.all signB) = _
    rw [show z.cps.toList.all signB = true from h, Bool.and_true]
  | _ => rfl
section
variable {P : Program} {w : World} {K : PySem.W.Frag} {mg : Str → Option Value} {base : Heap}
/-! _law_is_plain -/
abbrev s_law_is_plain : Stmt := topS 22
theorem sc_law_is_plain : FnScope ["thing", "whole"] ["thing"] (defScope s_law_is_plain) := ⟨rfl, rfl, rfl, by decide +kernel, rfl, by decide +kernel, by decide +kernel⟩
def sp_lplain (K : PySem.W.Frag) : Sp := fun vs H Q _ => ∃ (x : V) (d : PyData), vs = [x] ∧ Dp K H x d ∧ SeqAt.shaped d = true ∧ long d ≤ 1000 ∧ sgn d = true ∧ ∀ H', Same H H' → Q (.bl (plainB d)) H'
theorem ok_lplain (F : Def K mg "_law_is_plain" ["thing"] s_law_is_plain) (M : MB mg) : Cl P w K mg base 1 "_law_is_plain" (sp_lplain K) := by
  refine F.cl sc_law_is_plain (fun vs H Q E h => ?_) (fun f cdv A outer s H vs Q E hr h => ?_)
  · obtain ⟨x, d, rfl, _⟩ := h
    rfl
  obtain ⟨x, d, rfl, hd, hs, hl, hg, q⟩ := h
  have nd := sc_law_is_plain.nd
  have m_isinstance := M.m_isinstance
  have m_bool := M.m_bool
  have m_str := M.m_str
  have m_int := M.m_int
  have m_tuple := M.m_tuple
  have m_len := M.m_len
  refine ⟨_, (pss_cons (ps_if (PW.pt (pw_or (pt_not (pt_val (pe_callB (call_isiK' K) (by rfl) m_isinstance (by decide +kernel) (pa_cons (pv 0) (pa_cons (pe_bltn (v := .ty "tuple") (u := .type "tuple") (by rfl) m_tuple (by decide +kernel) rfl) pa_nil))))) (pw_or (pt_cmpR (op_notInK K) (pe_callB (call_lenK K) (by rfl) m_len PySem.boot_len (pa_cons (pv 0) pa_nil)) (pe_tup (pa_cons pe_int (pa_cons pe_int pa_nil))) (by rfl)) (pw_or1 (pt_not (pt_val (pe_callB (call_isiK' K) (by rfl) m_isinstance (by decide +kernel) (pa_cons (pe_ix (ix_tupK K) (pv 0) pe_int (fun _ _ => rfl)) (pa_cons (pe_bltn (v := .ty "str") (u := .type "str") (by rfl) m_str (by decide +kernel) rfl) pa_nil))))))))) (pss_one (ps_ret pe_bl)) pss_nil)
    (pss_cons (ps_if (pt_cmpR op_eq (pe_callB (call_lenK K) (by rfl) m_len PySem.boot_len (pa_cons (pv 0) pa_nil)) pe_int (by rfl)) (pss_one (ps_ret (pe_cmpR (op_inK K) (pe_ix (ix_tupK K) (pv 0) pe_int (fun _ _ => rfl)) (pe_tup (pa_cons pe_str (pa_cons pe_str pa_nil))) (by rfl)))) pss_nil)
    (pss_cons (ps_if (pt_cmpR op_eq (pe_ix (ix_tupK K) (pv 0) pe_int (fun _ _ => rfl)) pe_str (by rfl)) (pss_one (ps_ret (pe_callB (call_isiK' K) (by rfl) m_isinstance (by decide +kernel) (pa_cons (pe_ix (ix_tupK K) (pv 0) pe_int (fun _ _ => rfl)) (pa_cons (pe_bltn (v := .ty "bool") (u := .type "bool") (by rfl) m_bool (by decide +kernel) rfl) pa_nil))))) pss_nil)
    (pss_cons (ps_if (pt_cmpR op_eq (pe_ix (ix_tupK K) (pv 0) pe_int (fun _ _ => rfl)) pe_str (by rfl)) (pss_cons (ps_set (i := 1) nd rfl (Or.inl rfl) (pe_and (pe_callB (call_isiK' K) (by rfl) m_isinstance (by decide +kernel) (pa_cons (pe_ix (ix_tupK K) (pv 0) pe_int (fun _ _ => rfl)) (pa_cons (pe_bltn (v := .ty "int") (u := .type "int") (by rfl) m_int (by decide +kernel) rfl) pa_nil))) (pe_one (pe_not (pe_callB (call_isiK' K) (by rfl) m_isinstance (by decide +kernel) (pa_cons (pe_ix (ix_tupK K) (pv 0) pe_int (fun _ _ => rfl)) (pa_cons (pe_bltn (v := .ty "bool") (u := .type "bool") (by rfl) m_bool (by decide +kernel) rfl) pa_nil)))))))
    (pss_one (ps_ret (pe_and (pv 1) (pe_one (pe_chain op_le op_le (pe_op op_sub pe_int (pe_op op_pow pe_int pe_int)) (pe_ix (ix_tupK K) (pv 0) pe_int (fun _ _ => rfl)) (pe_op op_pow pe_int pe_int))))))) pss_nil)
    (pss_one (ps_ret (pe_and (pe_cmpR op_eq (pe_ix (ix_tupK K) (pv 0) pe_int (fun _ _ => rfl)) pe_str (by rfl)) (pe_and (pe_callB (call_isiK' K) (by rfl) m_isinstance (by decide +kernel) (pa_cons (pe_ix (ix_tupK K) (pv 0) pe_int (fun _ _ => rfl)) (pa_cons (pe_bltn (v := .ty "str") (u := .type "str") (by rfl) m_str (by decide +kernel) rfl) pa_nil))) (pe_one (pe_cmpR op_lt (pe_callB call_len_str (by rfl) m_len PySem.boot_len (pa_cons (pe_ix (ix_tupK K) (pv 0) pe_int (fun _ _ => rfl)) pa_nil)) pe_int (by rfl))))))))))), ?_⟩
  have out : ∀ {H' b}, Same H H' → plainB d = b → Q (.bl b) H' := fun s e => by rw [← e]; exact q _ s
  refine ⟨_, rfl, _, _, _, _, tupB d, rfl, .ty _, dp_ty hd, kit_ty (kit_tup d), ⟨_, rfl, ?_⟩⟩
  cases hd with
  | tup h hall =>
    rename_i a ys ds
    refine no (by show ¬ (!true) = true; decide) ?_
    refine ⟨_, rfl, a, ys, rfl, .inr h, (by show 2 ≤ sizeLine; decide), fun p np => ?_⟩
    have s1 : Same H (upd H p (.tup [.int 1, .int 2])) := same_new np
    generalize hH1 : upd H p (.tup [.int 1, .int 2]) = H1 at s1
    have hp : SqT K H1 p [.int 1, .int 2] := SqT.of (by rw [← hH1]; exact upd_same)
    refine ⟨p, _, rfl, .inr hp, rfl, rfl, _, rfl, ?_⟩
    have h1 := st_same s1 h
    have all1 := dpAll_same s1 _ _ hall
    cases hall with
    | nil => exact yes (by decide) (yes rfl (out s1 plain_nil))
    | cons h0 ht =>
      rename_i x0 xs d0 t
      have hd0 : Dp K H1 x0 d0 := dp_same s1 _ _ h0
      have first : ∀ {b : Bool} {Q' : Bool → Hp → Prop}, strB d0 = b → Q' b H1 → tTest (tCB (rIsi K) (tCons (tOp (rIxT K) (tVar 0) (tC (.int 0))) (tCons (tC (.ty "str")) tNil))) (L2.start ["thing", "whole"] [.ref a]) H1 Q' := fun {b Q'} e k =>
        ⟨_, rfl, a, _, _, x0, rfl, rfl, h1, at_of (j := 0) rfl rfl, _, _, _, _, b, rfl, .ty _, dp_ty hd0, kit_ty (e ▸ kit_str d0), ⟨_, rfl, k⟩⟩
      cases ht with
      | nil =>
        refine no (by show ¬ (!inV (.int ((1 : Nat) : Int)) [.int 1, .int 2]) = true; decide) ?_
        cases c0 : strB d0 with
        | false =>
          refine first c0 (yes rfl ?_)
          exact out s1 (by rw [plain1, eqv_other c0, eqv_other c0]; rfl)
        | true =>
          refine first c0 (no (by decide) ?_)
          obtain ⟨z, rfl⟩ : ∃ z, d0 = .str z := by cases d0 <;> first | exact ⟨_, rfl⟩ | cases c0
          cases hd0
          refine ⟨_, rfl, a, _, rfl, .inr h1, rfl, _, rfl, yes (decide_eq_true rfl) ?_⟩
          refine ⟨_, rfl, a, _, _, .str z, rfl, rfl, h1, at_of (j := 0) rfl rfl, (by show 2 ≤ sizeLine; decide), fun p2 np2 => ?_⟩
          refine ⟨p2, _, rfl, .inr (SqT.of upd_same), rfl, rfl, ?_⟩
          refine out (s1.trans (same_new np2)) ?_
          rw [plain1, eqvB, eqvB]
          show _ = inV (.str z) (([("none" : Str), "not"] : List Str).map V.str)
          rw [inV_strs, Bool.eq_iff_iff]
          simp
      | cons h0' ht' =>
        rename_i x1 xs' d1 t'
        have hd1 : Dp K H1 x1 d1 := dp_same s1 _ _ h0'
        cases ht' with
        | nil =>
          refine no (by show ¬ (!inV (.int ((2 : Nat) : Int)) [.int 1, .int 2]) = true; decide) ?_
          cases c0 : strB d0 with
          | false =>
            refine first c0 (yes rfl ?_)
            exact out s1 (by rw [plain2, eqv_other c0, eqv_other c0, eqv_other c0]; rfl)
          | true =>
            refine first c0 (no (by decide) ?_)
            obtain ⟨z, rfl⟩ : ∃ z, d0 = .str z := by cases d0 <;> first | exact ⟨_, rfl⟩ | cases c0
            cases hd0
            refine ⟨_, rfl, a, _, rfl, .inr h1, rfl, _, rfl, no (by rw [decide_eq_false fun e => absurd (V.int.inj e) (by show ¬ (2 : Int) = 1; decide)]; decide) ?_⟩
            have e2 := plain2 (.str z) d1
            rw [eqvB, eqvB, eqvB] at e2
            refine ⟨_, rfl, a, _, _, .str z, rfl, rfl, h1, at_of (j := 0) rfl rfl, rfl, _, rfl, ?_⟩
            rw [strV_eq]
            by_cases c1 : z = "truth"
            · refine yes (decide_eq_true c1) ?_
              refine ⟨_, rfl, a, _, _, x1, rfl, rfl, h1, at_of (j := 1) rfl rfl, _, _, _, _, boolB d1, rfl, .ty _, dp_ty hd1, kit_ty (kit_bool d1), ?_⟩
              exact out s1 (by rw [e2, if_pos (decide_eq_true c1)])
            refine no (by rw [decide_eq_false c1]; decide) ?_
            rw [if_neg (by rw [decide_eq_false c1]; decide)] at e2
            refine ⟨_, rfl, a, _, _, .str z, rfl, rfl, h1, at_of (j := 0) rfl rfl, rfl, _, rfl, ?_⟩
            rw [strV_eq]
            by_cases c2 : z = "number"
            · refine yes (decide_eq_true c2) ?_
              rw [if_pos (decide_eq_true c2)] at e2
              refine ⟨_, rfl, a, _, _, x1, rfl, rfl, h1, at_of (j := 1) rfl rfl, _, _, _, _, intB d1, rfl, .ty _, dp_ty hd1, kit_ty (kit_int d1), ⟨_, rfl, ?_⟩⟩
              cases c3 : intB d1 with
              | false =>
                refine no (by decide) ?_
                refine ⟨_, rfl, _, rfl, no (by decide) ?_⟩
                exact out s1 (by rw [e2]; cases d1 <;> first | rfl | cases c3)
              | true =>
                refine yes rfl ?_
                refine ⟨_, rfl, a, _, _, x1, rfl, rfl, h1, at_of (j := 1) rfl rfl, _, _, _, _, boolB d1, rfl, .ty _, dp_ty hd1, kit_ty (kit_bool d1), ⟨_, rfl, ?_⟩⟩
                refine ⟨_, rfl, _, rfl, ?_⟩
                cases c4 : boolB d1 with
                | true =>
                  refine no (by decide) ?_
                  exact out s1 (by rw [e2]; cases d1 <;> first | rfl | cases c4)
                | false =>
                  refine yes rfl ?_
                  obtain ⟨n, rfl⟩ : ∃ n, d1 = .int n := by cases d1 <;> first | exact ⟨_, rfl⟩ | (cases c3; done) | (cases c4; done)
                  cases hd1
                  refine ⟨_, _, rfl, rfl, ⟨by decide, by decide, by decide⟩, _, _, rfl, rfl, ?_⟩
                  refine ⟨_, rfl, a, _, _, .int n, rfl, rfl, h1, at_of (j := 1) rfl rfl, _, _, rfl, rfl, _, rfl, ?_⟩
                  have e5 : plainB (.tuple [.str z, .int n]) = (decide (-(10 ^ 9) ≤ n) && decide (n ≤ 10 ^ 9)) := by rw [e2]; rfl
                  have e6 : (0 : Int) - 10 ^ 9 = -(10 ^ 9) := by decide
                  show (if decide ((0 : Int) - 10 ^ 9 ≤ n) = true then _ else _)
                  rw [e6]
                  by_cases c7 : -(10 ^ 9) ≤ n
                  · refine yes (decide_eq_true c7) ?_
                    refine ⟨_, _, rfl, rfl, ⟨by decide, by decide, by decide⟩, _, _, rfl, rfl, ?_⟩
                    exact out s1 (by rw [e5, decide_eq_true c7, Bool.true_and]; rfl)
                  · refine no (by rw [decide_eq_false c7]; decide) ?_
                    exact out s1 (by rw [e5, decide_eq_false c7, Bool.false_and])
            refine no (by rw [decide_eq_false c2]; decide) ?_
            rw [if_neg (by rw [decide_eq_false c2]; decide)] at e2
            refine ⟨_, rfl, a, _, _, .str z, rfl, rfl, h1, at_of (j := 0) rfl rfl, rfl, _, rfl, ?_⟩
            rw [strV_eq]
            by_cases c8 : z = "text"
            rotate_left
            · refine no (by rw [decide_eq_false c8]; decide) ?_
              exact out s1 (by rw [e2, decide_eq_false c8, Bool.false_and])
            refine yes (decide_eq_true c8) ?_
            rw [decide_eq_true c8, Bool.true_and] at e2
            refine ⟨_, rfl, a, _, _, x1, rfl, rfl, h1, at_of (j := 1) rfl rfl, _, _, _, _, strB d1, rfl, .ty _, dp_ty hd1, kit_ty (kit_str d1), ⟨_, rfl, ?_⟩⟩
            have g1 : sgn d1 = true := sgn_mem (ds := [.str z, d1]) hg (List.mem_cons_of_mem _ List.mem_cons_self)
            have l1 : long d1 ≤ 1000 := Nat.le_trans (long_mem (ds := [.str z, d1]) (List.mem_cons_of_mem _ List.mem_cons_self)) hl
            rw [short_of g1] at e2
            cases c9 : strB d1 with
            | false =>
              refine no (by decide) ?_
              exact out s1 (by rw [e2]; cases d1 <;> first | rfl | cases c9)
            | true =>
              refine yes rfl ?_
              obtain ⟨u, rfl⟩ : ∃ u, d1 = .str u := by cases d1 <;> first | exact ⟨_, rfl⟩ | cases c9
              cases hd1
              have l1 : u.length ≤ 1000 := l1
              refine ⟨_, rfl, a, _, _, .str u, rfl, rfl, h1, at_of (j := 1) rfl rfl, u, rfl, Nat.le_of_lt (small1000 l1), _, _, rfl, rfl, ?_⟩
              refine out s1 ?_
              rw [e2, Bool.eq_iff_iff, decide_eq_true_iff, decide_eq_true_iff]
              omega
        | cons h0'' ht'' =>
          rename_i x2 xs'' d2 t''
          refine yes ?_ (yes rfl (out s1 (plain3 _ _ _ _)))
          have n1 : ∀ m : Nat, (V.int (((m + 3 : Nat)) : Int) == .int 1) = false ∧ (V.int (((m + 3 : Nat)) : Int) == .int 2) = false := fun m => ⟨beq_false_of_ne fun e => by have := V.int.inj e; omega, beq_false_of_ne fun e => by have := V.int.inj e; omega⟩
          show (!inV (.int ((xs''.length + 3 : Nat) : Int)) [.int 1, .int 2]) = true
          simp [inV, eqV]
          omega
  | _ => exact yes (by show (!false) = true; decide) (yes rfl (out (Same.refl H) rfl))
end
end Kin
namespace Kin
open PySem PySem.Spec PyProof.Rows L2 RZ
theorem len_ne {n : Nat} {k : Int} (h : (n : Int) ≠ k) : ¬ decide (V.int ((n : Nat) : Int) = V.int k) = true := by
  rw [decide_eq_false fun e => h (V.int.inj e)]
  decide
theorem len_is {n : Nat} {k : Int} (h : (n : Int) = k) : decide (V.int ((n : Nat) : Int) = V.int k) = true := decide_eq_true (by rw [h])
theorem len_nn {n : Nat} {k : Int} (h : (n : Int) = k) : ¬ (!decide (V.int ((n : Nat) : Int) = V.int k)) = true := by
  rw [len_is h]
  decide
theorem len_nt {n : Nat} {k : Int} (h : (n : Int) ≠ k) : (!decide (V.int ((n : Nat) : Int) = V.int k)) = true := by
  rw [decide_eq_false fun e => h (V.int.inj e)]
  decide
theorem worth_nil : worthB (.tuple []) = false := rfl
theorem worth1 (d0 : PyData) : worthB (.tuple [d0]) = plainB (.tuple [d0]) := by
  simp [worthB, unboundB, gateB, formB]
theorem worth2 (d0 d1 : PyData) : worthB (.tuple [d0, d1]) = if (PyData.eqv d0 (.str "kind") || PyData.eqv d0 (.str "deed")) = true then nameB d1 else if PyData.eqv d0 (.str "thing") = true then wholeB d1 && natB d1 else plainB (.tuple [d0, d1]) := by
  simp [worthB, unboundB, gateB, formB, partD]
theorem worth3 (d0 d1 d2 : PyData) : worthB (.tuple [d0, d1, d2]) = (PyData.eqv d0 (.str "gate") && (nameB d1 && (noneB d2 || nameB d2))) := by
  have e := plain3 d0 d1 d2 []
  simp [worthB, unboundB, gateB, formB, partD, e]
theorem worth4 (d0 d1 d2 d3 : PyData) : worthB (.tuple [d0, d1, d2, d3]) = (PyData.eqv d0 (.str "bound") && (nameB d1 && (nameB d2 && unboundB d3))) := by
  have e := plain3 d0 d1 d2 [d3]
  simp [worthB, unboundB, gateB, formB, partD, e]
theorem worth5 (d0 d1 d2 d3 d4 : PyData) (t : List PyData) : worthB (.tuple (d0 :: d1 :: d2 :: d3 :: d4 :: t)) = false := by
  have e := plain3 d0 d1 d2 (d3 :: d4 :: t)
  simp [worthB, unboundB, gateB, formB, partD, e]
/-- a plain worth's word is none of the others' -/
theorem plain_word {d0 d1 : PyData} (h : plainB (.tuple [d0, d1]) = true) : ∃ z, d0 = .str z ∧ z ≠ "kind" ∧ z ≠ "deed" ∧ z ≠ "thing" := by
  rw [plain2] at h
  have k : d0 = .str "truth" ∨ d0 = .str "number" ∨ d0 = .str "text" := by
    by_cases c1 : PyData.eqv d0 (.str "truth") = true
    · exact .inl (eqv_str.mp c1)
    · rw [if_neg c1] at h
      by_cases c2 : PyData.eqv d0 (.str "number") = true
      · exact .inr (.inl (eqv_str.mp c2))
      · rw [if_neg c2, Bool.and_eq_true] at h
        exact .inr (.inr (eqv_str.mp h.1))
  rcases k with rfl | rfl | rfl <;> exact ⟨_, rfl, by decide +kernel, by decide +kernel, by decide +kernel⟩
theorem plain_worth {d : PyData} (h : plainB d = true) : worthB d = true := by
  cases d with
  | tuple ds =>
    match ds, h with
    | [d0], h => rw [worth1]; exact h
    | [d0, d1], h =>
      obtain ⟨z, rfl, h1, h2, h3⟩ := plain_word h
      rw [worth2, eqvB, eqvB, eqvB, decide_eq_false h1, decide_eq_false h2, decide_eq_false h3]
      exact h
    | d0 :: d1 :: d2 :: t, h => rw [plain3] at h; cases h
  | _ => cases h
theorem nb (t : List PyData) : unboundB (.tuple (.str "bound" :: t)) = false := by
  have e : ∀ w n, w ≠ ("bound" : Str) → formB (.tuple (.str "bound" :: t)) w n = false := fun w n hw => by
    show (decide (t.length + 1 = n) && PyData.eqv (.str "bound") (.str w)) = false
    rw [eqvB, Bool.and_eq_false_iff]
    exact .inr (decide_eq_false fun e => hw e.symm)
  unfold unboundB plainB gateB
  rw [e "kind" 2 (by decide +kernel), e "deed" 2 (by decide +kernel), e "thing" 2 (by decide +kernel), e "none" 1 (by decide +kernel), e "not" 1 (by decide +kernel), e "truth" 2 (by decide +kernel), e "number" 2 (by decide +kernel), e "text" 2 (by decide +kernel), e "gate" 3 (by decide +kernel)]
  rfl
theorem unbound_worth {d : PyData} (h : worthB d = false) : unboundB d = false := by
  unfold worthB at h
  by_cases c : formB d "bound" 4 = true
  · cases d with
    | tuple ds =>
      cases ds with
      | nil => cases c
      | cons d0 t =>
        have c : (decide (t.length + 1 = 4) && PyData.eqv d0 (.str "bound")) = true := c
        rw [Bool.and_eq_true] at c
        rw [eqv_str.mp c.2]
        exact nb t
    | _ => cases c
  · rw [if_neg c] at h
    exact h
/-- a worth is a tuple, its word first -/
theorem worth_form {d : PyData} (h : worthB d = true) : ∃ z t, d = .tuple (.str z :: t) ∧ unboundB d = !decide (z = "bound") := by
  have un : ∀ {ds}, formB (.tuple ds) "bound" 4 = false → worthB (.tuple ds) = unboundB (.tuple ds) := fun {ds} h => by
    unfold worthB
    rw [if_neg (by rw [h]; decide)]
  cases d with
  | tuple ds =>
    have hd : ∃ z t, ds = .str z :: t := by
      match ds, h with
      | [d0], h =>
        rw [worth1, plain1, Bool.or_eq_true] at h
        rcases h with h | h <;> exact ⟨_, _, by rw [eqv_str.mp h]⟩
      | [d0, d1], h =>
        rw [worth2] at h
        by_cases c1 : (PyData.eqv d0 (.str "kind") || PyData.eqv d0 (.str "deed")) = true
        · rw [Bool.or_eq_true] at c1
          rcases c1 with c | c <;> exact ⟨_, _, by rw [eqv_str.mp c]⟩
        · rw [if_neg c1] at h
          by_cases c2 : PyData.eqv d0 (.str "thing") = true
          · exact ⟨_, _, by rw [eqv_str.mp c2]⟩
          · rw [if_neg c2] at h
            obtain ⟨z, rfl, _⟩ := plain_word h
            exact ⟨_, _, rfl⟩
      | [d0, d1, d2], h =>
        rw [worth3, Bool.and_eq_true] at h
        exact ⟨_, _, by rw [eqv_str.mp h.1]⟩
      | [d0, d1, d2, d3], h =>
        rw [worth4, Bool.and_eq_true] at h
        exact ⟨_, _, by rw [eqv_str.mp h.1]⟩
      | d0 :: d1 :: d2 :: d3 :: d4 :: t, h =>
        rw [worth5] at h
        cases h
    obtain ⟨z, t, rfl⟩ := hd
    refine ⟨z, t, rfl, ?_⟩
    by_cases c : z = "bound"
    · subst c
      rw [nb, decide_eq_true rfl]
      rfl
    · rw [← un (by show (decide (t.length + 1 = 4) && PyData.eqv (.str z) (.str "bound")) = false; rw [eqvB, Bool.and_eq_false_iff]; exact .inr (decide_eq_false c)), h, decide_eq_false c]
      rfl
  | _ => cases h
end Kin
namespace Kin
open PySem PySem.Spec PyProof.Rows L2 RZ
section
variable {P : Program} {w : World} {K : PySem.W.Frag} {mg : Str → Option Value} {base : Heap}
/-! _law_is_worth -/
abbrev s_law_is_worth : Stmt := topS 23
theorem sc_law_is_worth : FnScope ["thing"] ["thing"] (defScope s_law_is_worth) := ⟨rfl, rfl, rfl, by decide +kernel, rfl, by decide +kernel, by decide +kernel⟩
def sp_lworth (K : PySem.W.Frag) (n : Nat) : Sp := fun vs H Q _ => ∃ (x : V) (d : PyData), vs = [x] ∧ Dp K H x d ∧ SeqAt.shaped d = true ∧ long d ≤ 1000 ∧ sgn d = true ∧ d.depth < n ∧ ∀ H', Same H H' → Q (.bl (worthB d)) H'
theorem ok_lworth_step {n : Nat} (F : Def K mg "_law_is_worth" ["thing"] s_law_is_worth) (M : MB mg) (c_law_is_name : Cl P w K mg base 1 "_law_is_name" (sp_lname K)) (c_law_is_plain : Cl P w K mg base 1 "_law_is_plain" (sp_lplain K)) (c_law_is_worth : Cl P w K mg base (n + 1) "_law_is_worth" (sp_lworth K n)) : Cl P w K mg base (n + 2) "_law_is_worth" (sp_lworth K (n + 1)) := by
  refine F.cl sc_law_is_worth (fun vs H Q E h => ?_) (fun f cdv A outer s H vs Q E hr h => ?_)
  · obtain ⟨x, d, rfl, _⟩ := h
    rfl
  obtain ⟨x, d, rfl, hd, hs, hl, hg, hdep, q⟩ := h
  have nd := sc_law_is_worth.nd
  have m_isinstance := M.m_isinstance
  have m_bool := M.m_bool
  have m_str := M.m_str
  have m_int := M.m_int
  have m_tuple := M.m_tuple
  have m_len := M.m_len
  have hr1 : 1 ≤ n + 1 := by omega
  refine ⟨_, (pss_cons (ps_if (pt_val (pe_cl c_law_is_plain hr hr1 (by rfl) (pa_cons (pv 0) pa_nil))) (pss_one (ps_ret pe_bl)) pss_nil)
    (pss_cons (ps_if (PW.pt (pw_or (pt_not (pt_val (pe_callB (call_isiK' K) (by rfl) m_isinstance (by decide +kernel) (pa_cons (pv 0) (pa_cons (pe_bltn (v := .ty "tuple") (u := .type "tuple") (by rfl) m_tuple (by decide +kernel) rfl) pa_nil))))) (pw_or (pt_cmpR op_lt (pe_callB (call_lenK K) (by rfl) m_len PySem.boot_len (pa_cons (pv 0) pa_nil)) pe_int (by rfl)) (pw_or1 (pt_not (pt_val (pe_callB (call_isiK' K) (by rfl) m_isinstance (by decide +kernel) (pa_cons (pe_ix (ix_tupK K) (pv 0) pe_int (fun _ _ => rfl)) (pa_cons (pe_bltn (v := .ty "str") (u := .type "str") (by rfl) m_str (by decide +kernel) rfl) pa_nil))))))))) (pss_one (ps_ret pe_bl)) pss_nil)
    (pss_cons (ps_if (PW.pt (pw_and (pt_cmpR op_eq (pe_callB (call_lenK K) (by rfl) m_len PySem.boot_len (pa_cons (pv 0) pa_nil)) pe_int (by rfl)) (pw_and1 (pt_cmpR (op_inK K) (pe_ix (ix_tupK K) (pv 0) pe_int (fun _ _ => rfl)) (pe_tup (pa_cons pe_str (pa_cons pe_str pa_nil))) (by rfl))))) (pss_one (ps_ret (pe_cl c_law_is_name hr hr1 (by rfl) (pa_cons (pe_ix (ix_tupK K) (pv 0) pe_int (fun _ _ => rfl)) pa_nil)))) pss_nil)
    (pss_cons (ps_if (PW.pt (pw_and (pt_cmpR op_eq (pe_callB (call_lenK K) (by rfl) m_len PySem.boot_len (pa_cons (pv 0) pa_nil)) pe_int (by rfl)) (pw_and1 (pt_cmpR op_eq (pe_ix (ix_tupK K) (pv 0) pe_int (fun _ _ => rfl)) pe_str (by rfl))))) (pss_one (ps_ret (pe_and (pe_callB (call_isiK' K) (by rfl) m_isinstance (by decide +kernel) (pa_cons (pe_ix (ix_tupK K) (pv 0) pe_int (fun _ _ => rfl)) (pa_cons (pe_bltn (v := .ty "int") (u := .type "int") (by rfl) m_int (by decide +kernel) rfl) pa_nil))) (pe_and (pe_not (pe_callB (call_isiK' K) (by rfl) m_isinstance (by decide +kernel) (pa_cons (pe_ix (ix_tupK K) (pv 0) pe_int (fun _ _ => rfl)) (pa_cons (pe_bltn (v := .ty "bool") (u := .type "bool") (by rfl) m_bool (by decide +kernel) rfl) pa_nil)))) (pe_one (pe_cmpR op_ge (pe_ix (ix_tupK K) (pv 0) pe_int (fun _ _ => rfl)) pe_int (by rfl))))))) pss_nil)
    (pss_cons (ps_if (PW.pt (pw_and (pt_cmpR op_eq (pe_callB (call_lenK K) (by rfl) m_len PySem.boot_len (pa_cons (pv 0) pa_nil)) pe_int (by rfl)) (pw_and1 (pt_cmpR op_eq (pe_ix (ix_tupK K) (pv 0) pe_int (fun _ _ => rfl)) pe_str (by rfl))))) (pss_one (ps_ret (pe_and (pe_cl c_law_is_name hr hr1 (by rfl) (pa_cons (pe_ix (ix_tupK K) (pv 0) pe_int (fun _ _ => rfl)) pa_nil)) (pe_one (pe_or (pe_cmpR op_isN (pe_ix (ix_tupK K) (pv 0) pe_int (fun _ _ => rfl)) pe_non (by rfl)) (pe_one (pe_cl c_law_is_name hr hr1 (by rfl) (pa_cons (pe_ix (ix_tupK K) (pv 0) pe_int (fun _ _ => rfl)) pa_nil)))))))) pss_nil)
    (pss_cons (ps_if (PW.pt (pw_or (pt_cmpR op_ne (pe_callB (call_lenK K) (by rfl) m_len PySem.boot_len (pa_cons (pv 0) pa_nil)) pe_int (by rfl)) (pw_or (pt_cmpR op_ne (pe_ix (ix_tupK K) (pv 0) pe_int (fun _ _ => rfl)) pe_str (by rfl)) (pw_or (pt_not (pt_val (pe_cl c_law_is_name hr hr1 (by rfl) (pa_cons (pe_ix (ix_tupK K) (pv 0) pe_int (fun _ _ => rfl)) pa_nil)))) (pw_or1 (pt_not (pt_val (pe_cl c_law_is_name hr hr1 (by rfl) (pa_cons (pe_ix (ix_tupK K) (pv 0) pe_int (fun _ _ => rfl)) pa_nil))))))))) (pss_one (ps_ret pe_bl)) pss_nil)
    (pss_one (ps_ret (pe_and (pe_cl c_law_is_worth hr (Nat.le_refl (n + 1)) (by rfl) (pa_cons (pe_ix (ix_tupK K) (pv 0) pe_int (fun _ _ => rfl)) pa_nil)) (pe_one (pe_cmpR op_ne (pe_ix (ix_tupK K) (pe_ix (ix_tupK K) (pv 0) pe_int (fun _ _ => rfl)) pe_int (fun _ _ => rfl)) pe_str (by rfl)))))))))))), ?_⟩
  have out : ∀ {H' b}, Same H H' → worthB d = b → Q (.bl b) H' := fun s e => by rw [← e]; exact q _ s
  refine ⟨_, rfl, x, d, rfl, hd, hs, hl, hg, fun H1 s1 => ⟨_, rfl, ?_⟩⟩
  cases cp : plainB d with
  | true => exact yes rfl (out s1 (plain_worth cp))
  | false =>
  refine no (by decide) ?_
  have hd1 := dp_same s1 _ _ hd
  refine ⟨_, rfl, _, _, _, _, tupB d, rfl, .ty _, dp_ty hd1, kit_ty (kit_tup d), ⟨_, rfl, ?_⟩⟩
  cases hd1 with
  | tup h1 all1 =>
    rename_i a ys ds
    refine no (by show ¬ (!true) = true; decide) ?_
    -- parts
    have part : ∀ {i : Nat} {e : PyData}, ds[i]? = some e → SeqAt.shaped e = true ∧ long e ≤ 1000 ∧ sgn e = true ∧ e.depth < n := fun {i e} he => by
      have hm := List.mem_of_getElem? he
      refine ⟨shaped_mem hs hm, Nat.le_trans (long_mem hm) hl, sgn_mem hg hm, ?_⟩
      have := depth_mem hm
      have h2 : PyData.depthAll ds + 1 < n + 1 := hdep
      omega
    cases all1 with
    | nil =>
      refine ⟨_, rfl, a, _, rfl, .inr h1, _, _, rfl, rfl, _, rfl, yes (decide_eq_true (by show ((0 : Nat) : Int) < 2; decide)) (yes rfl (out s1 worth_nil))⟩
    | cons h0 ht =>
      rename_i x0 xs d0 t
      have first : ∀ {b : Bool} {Q' : Bool → Hp → Prop}, strB d0 = b → Q' b H1 → tTest (tCB (rIsi K) (tCons (tOp (rIxT K) (tVar 0) (tC (.int 0))) (tCons (tC (.ty "str")) tNil))) (L2.start ["thing"] [.ref a]) H1 Q' := fun {b Q'} e k =>
        ⟨_, rfl, a, _, _, x0, rfl, rfl, h1, at_of (j := 0) rfl rfl, _, _, _, _, b, rfl, .ty _, dp_ty h0, kit_ty (e ▸ kit_str d0), ⟨_, rfl, k⟩⟩
      cases ht with
      | nil => exact ⟨_, rfl, a, _, rfl, .inr h1, _, _, rfl, rfl, _, rfl, yes (decide_eq_true (by show ((1 : Nat) : Int) < 2; decide)) (yes rfl (out s1 (by rw [worth1]; exact cp)))⟩
      | cons h0' ht' =>
        rename_i x1 xs' d1 t'
        obtain ⟨hs1, hl1, hg1, hp1⟩ := part (i := 1) rfl
        have long2 : ¬ decide (((xs'.length + 2 : Nat) : Int) < 2) = true := by
          rw [decide_eq_false (by omega)]
          decide
        refine ⟨_, rfl, a, _, rfl, .inr h1, _, _, rfl, rfl, _, rfl, no long2 ?_⟩
        cases c0 : strB d0 with
        | false =>
          refine first c0 (yes rfl (out s1 ?_))
          have e : ∀ w, PyData.eqv d0 (.str w) = false := fun w => eqv_other c0
          match t', cp with
          | [], cp => rw [worth2, e, e, e]; exact cp
          | [d2], _ => rw [worth3, e]; rfl
          | [d2, d3], _ => rw [worth4, e]; rfl
          | d2 :: d3 :: d4 :: t, _ => exact worth5 _ _ _ _ _ _
        | true =>
        refine first c0 (no (by decide) ?_)
        obtain ⟨z, rfl⟩ : ∃ z, d0 = .str z := by cases d0 <;> first | exact ⟨_, rfl⟩ | cases c0
        cases h0
        have skip : ∀ {k : Int} {H' : Hp} {u : TT} {Q' : Bool → Hp → Prop}, Same H1 H' → ((xs'.length + 2 : Nat) : Int) ≠ k → Q' false H' → tAnd (tTest (tOp rEq (tCB (rLenK K) (tCons (tVar 0) tNil)) (tC (.int k)))) u (L2.start ["thing"] [.ref a]) H' Q' := fun {k H' u Q'} s ne kk =>
          ⟨_, rfl, a, _, rfl, .inr (st_same s h1), rfl, _, rfl, no (len_ne ne) kk⟩
        have name2 : ∀ {i : Nat} {y : V} {e : PyData} {H' : Hp} {Q' : VK}, (V.str z :: x1 :: xs')[i]? = some y → (PyData.str z :: d1 :: t')[i]? = some e → Dp K H1 y e → Same H1 H' → (∀ H2, Same H' H2 → Q' (.bl (nameB e)) H2) → tCall (sp_lname K) [] E0 (tCons (tOp (rIxT K) (tVar 0) (tC (.int i))) tNil) (L2.start ["thing"] [.ref a]) H' Q' := fun {i y e H' Q'} hy he hde s kk =>
          ⟨_, rfl, a, _, _, y, rfl, rfl, st_same s h1, at_of (j := i) rfl hy, y, e, rfl, dp_same s _ _ hde, (part he).1, (part he).2.1, kk⟩
        cases ht' with
        | nil =>
          refine ⟨_, rfl, a, _, rfl, .inr h1, rfl, _, rfl, yes (len_is (n := 2) rfl) ?_⟩
          refine ⟨_, rfl, a, _, _, .str z, rfl, rfl, h1, at_of (j := 0) rfl rfl, (by show 2 ≤ sizeLine; decide), fun p np => ?_⟩
          have s2 : Same H1 (upd H1 p (.tup [.str "kind", .str "deed"])) := same_new np
          refine ⟨p, _, rfl, .inr (SqT.of upd_same), rfl, rfl, _, rfl, ?_⟩
          show (if inV (.str z) (([("kind" : Str), "deed"] : List Str).map V.str) = true then _ else _)
          rw [inV_strs]
          generalize upd H1 p (.tup [.str "kind", .str "deed"]) = H2 at s2
          have e2 := worth2 (.str z) d1
          rw [eqvB, eqvB, eqvB] at e2
          have e3 : decide (z ∈ [("kind" : Str), "deed"]) = (decide (z = "kind") || decide (z = "deed")) := by
            rw [Bool.eq_iff_iff]
            simp
          rw [e3]
          by_cases c1 : (decide (z = "kind") || decide (z = "deed")) = true
          · refine yes c1 ?_
            rw [if_pos c1] at e2
            exact name2 (i := 1) rfl rfl h0' s2 fun H3 s3 => out ((s1.trans s2).trans s3) e2
          refine no c1 ?_
          rw [if_neg c1] at e2
          refine ⟨_, rfl, a, _, rfl, .inr (st_same s2 h1), rfl, _, rfl, yes (len_is (n := 2) rfl) ?_⟩
          refine ⟨_, rfl, a, _, _, .str z, rfl, rfl, st_same s2 h1, at_of (j := 0) rfl rfl, rfl, _, rfl, ?_⟩
          rw [strV_eq]
          by_cases c2 : z = "thing"
          · refine yes (decide_eq_true c2) ?_
            rw [if_pos (decide_eq_true c2)] at e2
            have hd1 := dp_same s2 _ _ h0'
            refine ⟨_, rfl, a, _, _, x1, rfl, rfl, st_same s2 h1, at_of (j := 1) rfl rfl, _, _, _, _, intB d1, rfl, .ty _, dp_ty hd1, kit_ty (kit_int d1), ⟨_, rfl, ?_⟩⟩
            cases c3 : intB d1 with
            | false =>
              refine no (by decide) ?_
              exact out (s1.trans s2) (by rw [e2]; cases d1 <;> first | rfl | cases c3)
            | true =>
              refine yes rfl ?_
              refine ⟨_, rfl, a, _, _, x1, rfl, rfl, st_same s2 h1, at_of (j := 1) rfl rfl, _, _, _, _, boolB d1, rfl, .ty _, dp_ty hd1, kit_ty (kit_bool d1), ⟨_, rfl, _, rfl, ?_⟩⟩
              cases c4 : boolB d1 with
              | true =>
                refine no (by decide) ?_
                exact out (s1.trans s2) (by rw [e2]; cases d1 <;> first | rfl | cases c4)
              | false =>
                refine yes rfl ?_
                obtain ⟨n, rfl⟩ : ∃ n, d1 = .int n := by cases d1 <;> first | exact ⟨_, rfl⟩ | (cases c3; done) | (cases c4; done)
                cases h0'
                refine ⟨_, rfl, a, _, _, .int n, rfl, rfl, st_same s2 h1, at_of (j := 1) rfl rfl, _, _, rfl, rfl, ?_⟩
                exact out (s1.trans s2) (by rw [e2]; rfl)
          refine no (by rw [decide_eq_false c2]; decide) ?_
          rw [if_neg (by rw [decide_eq_false c2]; decide), cp] at e2
          refine skip s2 (by show ((2 : Nat) : Int) ≠ 3; decide) (no (by decide) ?_)
          refine ⟨_, rfl, a, _, rfl, .inr (st_same s2 h1), rfl, _, rfl, yes (len_nt (n := 2) (by decide)) (yes rfl ?_)⟩
          exact out (s1.trans s2) e2
        | cons h0'' ht'' =>
          rename_i x2 xs'' d2 t''
          refine skip (Same.refl _) (by show ((xs''.length + 3 : Nat) : Int) ≠ 2; omega) (no (by decide) ?_)
          refine skip (Same.refl _) (by show ((xs''.length + 3 : Nat) : Int) ≠ 2; omega) (no (by decide) ?_)
          cases ht'' with
          | nil =>
            have e2 := worth3 (.str z) d1 d2
            rw [eqvB] at e2
            refine ⟨_, rfl, a, _, rfl, .inr h1, rfl, _, rfl, yes (len_is (n := 3) rfl) ?_⟩
            refine ⟨_, rfl, a, _, _, .str z, rfl, rfl, h1, at_of (j := 0) rfl rfl, rfl, _, rfl, ?_⟩
            rw [strV_eq]
            by_cases c2 : z = "gate"
            rotate_left
            · refine no (by rw [decide_eq_false c2]; decide) ?_
              rw [decide_eq_false c2, Bool.false_and] at e2
              refine ⟨_, rfl, a, _, rfl, .inr h1, rfl, _, rfl, yes (len_nt (n := 3) (by decide)) (yes rfl ?_)⟩
              exact out s1 e2
            refine yes (decide_eq_true c2) ?_
            rw [decide_eq_true c2, Bool.true_and] at e2
            refine name2 (i := 1) rfl rfl h0' (Same.refl _) fun H3 s3 => ⟨_, rfl, ?_⟩
            cases c3 : nameB d1 with
            | false =>
              rw [c3, Bool.false_and] at e2
              exact no (by decide) (out (s1.trans s3) e2)
            | true =>
              rw [c3, Bool.true_and] at e2
              refine yes rfl ?_
              refine ⟨_, rfl, a, _, _, x2, rfl, rfl, st_same s3 h1, at_of (j := 2) rfl rfl, rfl, _, rfl, ?_⟩
              rw [non_iff h0'']
              by_cases c4 : noneB d2 = true
              · rw [c4, Bool.true_or] at e2
                exact yes c4 (out (s1.trans s3) e2)
              · rw [Bool.eq_false_iff.mpr c4, Bool.false_or] at e2
                refine no c4 ?_
                exact name2 (i := 2) rfl rfl h0'' s3 fun H4 s4 => out ((s1.trans s3).trans s4) e2
          | cons h3 ht3 =>
            rename_i x3 xs3 d3 t3
            refine skip (Same.refl _) (by show ((xs3.length + 4 : Nat) : Int) ≠ 3; omega) (no (by decide) ?_)
            cases ht3 with
            | nil =>
              have e2 := worth4 (.str z) d1 d2 d3
              rw [eqvB] at e2
              refine ⟨_, rfl, a, _, rfl, .inr h1, rfl, _, rfl, no (len_nn (n := 4) rfl) ?_⟩
              refine ⟨_, rfl, a, _, _, .str z, rfl, rfl, h1, at_of (j := 0) rfl rfl, rfl, _, rfl, ?_⟩
              rw [strV_eq]
              by_cases c2 : z = "bound"
              rotate_left
              · refine yes (by rw [decide_eq_false c2]; decide) (yes rfl ?_)
                rw [decide_eq_false c2, Bool.false_and] at e2
                exact out s1 e2
              refine no (by rw [decide_eq_true c2]; decide) ?_
              rw [decide_eq_true c2, Bool.true_and] at e2
              refine name2 (i := 1) rfl rfl h0' (Same.refl _) fun H3 s3 => ⟨_, rfl, ?_⟩
              cases c3 : nameB d1 with
              | false =>
                rw [c3, Bool.false_and] at e2
                exact yes rfl (yes rfl (out (s1.trans s3) e2))
              | true =>
              rw [c3, Bool.true_and] at e2
              refine no (by decide) ?_
              refine name2 (i := 2) rfl rfl h0'' s3 fun H4 s4 => ⟨_, rfl, ?_⟩
              have s34 := s3.trans s4
              cases c4 : nameB d2 with
              | false =>
                rw [c4, Bool.false_and] at e2
                exact yes rfl (out (s1.trans s34) e2)
              | true =>
              rw [c4, Bool.true_and] at e2
              refine no (by decide) ?_
              obtain ⟨p1, p2, p3, p4⟩ := part (i := 3) rfl
              refine ⟨_, rfl, a, _, _, x3, rfl, rfl, st_same s34 h1, at_of (j := 3) rfl rfl, x3, d3, rfl, dp_same s34 _ _ h3, p1, p2, p3, p4, fun H5 s5 => ⟨_, rfl, ?_⟩⟩
              have s345 := s34.trans s5
              cases c5 : worthB d3 with
              | false =>
                refine no (by decide) ?_
                rw [unbound_worth c5] at e2
                exact out (s1.trans s345) e2
              | true =>
                refine yes rfl ?_
                obtain ⟨z3, t3, rfl, e6⟩ := worth_form c5
                have h3' := dp_same s345 _ _ h3
                cases h3' with
                | tup hx all =>
                  cases all with
                  | cons hz _ =>
                    cases hz
                    refine ⟨_, rfl, a, _, _, _, rfl, rfl, st_same s345 h1, at_of (j := 3) rfl rfl, _, _, _, .str z3, rfl, rfl, hx, at_of (j := 0) rfl rfl, rfl, ?_⟩
                    rw [strV_eq]
                    exact out (s1.trans s345) (by rw [e2, e6])
            | cons h4 ht4 =>
              rename_i x4 xs4 d4 t4
              refine ⟨_, rfl, a, _, rfl, .inr h1, rfl, _, rfl, yes (len_nt (by show ((xs4.length + 5 : Nat) : Int) ≠ 4; omega)) (yes rfl (out s1 (worth5 _ _ _ _ _ _)))⟩
  | _ => exact yes (by show (!false) = true; decide) (yes rfl (out s1 rfl))
end
end Kin
namespace Kin
open PySem PySem.Spec PyProof.Rows L2 RZ
/-! ### data that a law draws -/
mutual
def fine : PyData → Bool
  | .none => true
  | .bool _ => true
  | .int i => decide (i.natAbs < 10 ^ 31)
  | .str x => (PyData.strOk x && decide (x.length ≤ 21)) && x.cps.toList.all signB
  | .list ds => fineAll ds
  | .tuple ds => fineAll ds
  | .dict _ => false
def fineAll : List PyData → Bool
  | [] => true
  | d :: t => fine d && fineAll t
end
theorem fineAll_iff : ∀ {ds : List PyData}, fineAll ds = true ↔ ∀ d ∈ ds, fine d = true
  | [] => ⟨(fun _ _ h => nomatch h), fun _ => rfl⟩
  | d :: t => by
    show (fine d && fineAll t) = true ↔ _
    rw [Bool.and_eq_true, fineAll_iff (ds := t), List.forall_mem_cons]
mutual
theorem fine_lay : ∀ {d : PyData}, fine d = true → PyData.canLay0 d = true
  | .none, _ => rfl
  | .bool _, _ => rfl
  | .int _, _ => rfl
  | .str x, h => by
    have h : ((PyData.strOk x && decide (x.length ≤ 21)) && x.cps.toList.all signB) = true := h
    rw [Bool.and_eq_true, Bool.and_eq_true] at h
    exact h.1.1
  | .list ds, h => fineAll_lay (ds := ds) h
  | .tuple ds, h => fineAll_lay (ds := ds) h
theorem fineAll_lay : ∀ {ds : List PyData}, fineAll ds = true → PyData.canLayAll0 ds = true
  | [], _ => rfl
  | d :: t, h => by
    have h : (fine d && fineAll t) = true := h
    rw [Bool.and_eq_true] at h
    show (PyData.canLay0 d && PyData.canLayAll0 t) = true
    rw [fine_lay h.1, fineAll_lay h.2]
    rfl
end
mutual
theorem fine_sgn : ∀ {d : PyData}, fine d = true → sgn d = true
  | .none, _ => rfl
  | .bool _, _ => rfl
  | .int _, _ => rfl
  | .str x, h => by
    have h : ((PyData.strOk x && decide (x.length ≤ 21)) && x.cps.toList.all signB) = true := h
    rw [Bool.and_eq_true] at h
    exact h.2
  | .list ds, h => fineAll_sgn (ds := ds) h
  | .tuple ds, h => fineAll_sgn (ds := ds) h
theorem fineAll_sgn : ∀ {ds : List PyData}, fineAll ds = true → sgnAll ds = true
  | [], _ => rfl
  | d :: t, h => by
    have h : (fine d && fineAll t) = true := h
    rw [Bool.and_eq_true] at h
    show (sgn d && sgnAll t) = true
    rw [fine_sgn h.1, fineAll_sgn h.2]
    rfl
end
mutual
theorem fine_long : ∀ {d : PyData}, fine d = true → long d ≤ 1000
  | .none, _ => Nat.zero_le _
  | .bool _, _ => Nat.zero_le _
  | .int _, _ => Nat.zero_le _
  | .str x, h => by
    have h : ((PyData.strOk x && decide (x.length ≤ 21)) && x.cps.toList.all signB) = true := h
    rw [Bool.and_eq_true, Bool.and_eq_true] at h
    have := of_decide_eq_true h.1.2
    show x.length ≤ 1000
    omega
  | .list ds, h => fineAll_long (ds := ds) h
  | .tuple ds, h => fineAll_long (ds := ds) h
theorem fineAll_long : ∀ {ds : List PyData}, fineAll ds = true → longAll ds ≤ 1000
  | [], _ => Nat.zero_le _
  | d :: t, h => by
    have h : (fine d && fineAll t) = true := h
    rw [Bool.and_eq_true] at h
    exact Nat.max_le.mpr ⟨fine_long h.1, fineAll_long h.2⟩
end
theorem fine_log {i : Int} (h : i.natAbs < 10 ^ 31) : i.natAbs.log2 < 1920 := by
  by_cases z : i.natAbs = 0
  · rw [z]
    decide
  · rw [Nat.log2_lt z]
    exact Nat.lt_of_lt_of_le h (by decide)
mutual
theorem fine_showable : ∀ {d : PyData}, fine d = true → d.showable = true
  | .none, _ => rfl
  | .bool _, _ => rfl
  | .int i, h => decide_eq_true (fine_log (of_decide_eq_true h))
  | .str x, h => rfl
  | .list ds, h => fineAll_showable (ds := ds) h
  | .tuple ds, h => fineAll_showable (ds := ds) h
theorem fineAll_showable : ∀ {ds : List PyData}, fineAll ds = true → PyData.showableAll ds = true
  | [], _ => rfl
  | d :: t, h => by
    have h : (fine d && fineAll t) = true := h
    rw [Bool.and_eq_true] at h
    show (d.showable && PyData.showableAll t) = true
    rw [fine_showable h.1, fineAll_showable h.2]
    rfl
end
mutual
theorem fine_short : ∀ {d : PyData}, fine d = true → d.leavesShort 40 = true
  | .none, _ => rfl
  | .bool _, _ => rfl
  | .int i, h => decide_eq_true (by
    have e := int_text_length_le10 (a := i) (k := 31) (by decide) (of_decide_eq_true h)
    show (Str.ofString (toString i)).length ≤ 40
    rw [PySem.ofString_length]
    omega)
  | .str x, h => by
    have h : ((PyData.strOk x && decide (x.length ≤ 21)) && x.cps.toList.all signB) = true := h
    rw [Bool.and_eq_true, Bool.and_eq_true] at h
    have h1 := h.1.1
    unfold PyData.strOk at h1
    rw [← Array.all_toList, List.all_eq_true] at h1
    show x.cps.toList.all _ = true
    rw [List.all_eq_true]
    intro c hc
    have := of_decide_eq_true (h1 c hc)
    exact decide_eq_true (Nat.lt_of_lt_of_le this (by decide))
  | .list ds, h => fineAll_short (ds := ds) h
  | .tuple ds, h => fineAll_short (ds := ds) h
theorem fineAll_short : ∀ {ds : List PyData}, fineAll ds = true → PyData.leavesShortAll 40 ds = true
  | [], _ => rfl
  | d :: t, h => by
    have h : (fine d && fineAll t) = true := h
    rw [Bool.and_eq_true] at h
    show (d.leavesShort 40 && PyData.leavesShortAll 40 t) = true
    rw [fine_short h.1, fineAll_short h.2]
    rfl
end
/-- drawn data of some depth and bulk -/
structure Fi (a b : Nat) (d : PyData) : Prop where
  f : fine d = true
  dep : d.depth ≤ a
  blk : d.bulk ≤ b
theorem Fi.mono {a b a' b' : Nat} {d : PyData} (h : Fi a b d) (h1 : a ≤ a') (h2 : b ≤ b') : Fi a' b' d := ⟨h.f, Nat.le_trans h.dep h1, Nat.le_trans h.blk h2⟩
theorem Fi.shaped {a b : Nat} {d : PyData} (h : Fi a b d) (ha : a ≤ 60) : SeqAt.shaped d = true := by
  unfold SeqAt.shaped
  have := h.dep
  rw [fine_lay h.f, decide_eq_true (by omega)]
  rfl
theorem Fi.shown {a b : Nat} {d : PyData} (h : Fi a b d) (hb : b ≤ 10000) : d.shown.length ≤ sizeLine := by
  have e := PyData.shown_le_bulk 40 (by decide) d (fine_short h.f)
  have := h.blk
  rw [sizeLine_eq]
  omega
theorem bulkAll_app : ∀ xs ys : List PyData, PyData.bulkAll (xs ++ ys) = PyData.bulkAll xs + PyData.bulkAll ys
  | [], ys => (Nat.zero_add _).symm
  | x :: xs, ys => by
    show x.bulk + 1 + PyData.bulkAll (xs ++ ys) = x.bulk + 1 + PyData.bulkAll xs + PyData.bulkAll ys
    rw [bulkAll_app xs ys]
    omega
theorem bulkAll_part (xs : List PyData) (k : Nat) : PyData.bulkAll (xs.take k) + PyData.bulkAll (xs.drop k) = PyData.bulkAll xs := by
  rw [← bulkAll_app, List.take_append_drop]
theorem depthAll_le {n : Nat} : ∀ {xs : List PyData}, PyData.depthAll xs ≤ n ↔ ∀ x ∈ xs, x.depth ≤ n
  | [] => ⟨(fun _ _ h => nomatch h), fun _ => Nat.zero_le _⟩
  | x :: xs => by
    show max x.depth (PyData.depthAll xs) ≤ n ↔ _
    rw [Nat.max_le, depthAll_le (xs := xs), List.forall_mem_cons]
theorem len_bulk : ∀ xs : List PyData, xs.length ≤ PyData.bulkAll xs
  | [] => Nat.zero_le _
  | x :: xs => by
    have := len_bulk xs
    show xs.length + 1 ≤ x.bulk + 1 + PyData.bulkAll xs
    omega
end Kin
namespace Kin
open PySem PySem.Spec PyProof.Rows L2 RZ
def sgs : Str := mk ([32, 33, 34, 35, 36] ++ (List.range 89).map (· + 38) ++ [10, 9])
theorem sgs_eq : Str.ofString " !\"#$&'()*+,-./0123456789:;<=>?@ABCDEFGHIJKLMNOPQRSTUVWXYZ[\\]^_`abcdefghijklmnopqrstuvwxyz{|}~\n\t" = sgs := by decide +kernel
theorem sgs_ok : ∀ c ∈ sgs.cps.toList, signB c = true ∧ c < 0x110000 := by decide +kernel
theorem sgs_len : sgs.length = 96 := by decide +kernel
theorem sgs_at {i : Int} (h0 : 0 ≤ i) (h1 : i < 96) : ∃ c, atI sgs.cps.toList i = some c ∧ c ∈ sgs.cps.toList := by
  have hl : sgs.cps.toList.length = 96 := by decide +kernel
  obtain ⟨k, rfl⟩ : ∃ k : Nat, i = (k : Int) := ⟨i.toNat, by omega⟩
  have hi : k < sgs.cps.toList.length := by omega
  exact ⟨sgs.cps.toList[k], atI_nat (List.getElem?_eq_getElem hi), List.getElem_mem hi⟩
def TextOk (m : Nat) (z : Str) : Prop := z.length ≤ m ∧ (∀ c ∈ z.cps.toList, signB c = true ∧ c < 0x110000)
theorem TextOk.fine {m : Nat} {z : Str} (h : TextOk m z) (hm : m ≤ 21) : fine (.str z) = true := by
  show ((PyData.strOk z && decide (z.length ≤ 21)) && z.cps.toList.all signB) = true
  rw [Bool.and_eq_true, Bool.and_eq_true]
  refine ⟨⟨?_, decide_eq_true (Nat.le_trans h.1 hm)⟩, List.all_eq_true.mpr fun c hc => (h.2 c hc).1⟩
  unfold PyData.strOk
  rw [← Array.all_toList, List.all_eq_true]
  exact fun c hc => decide_eq_true (h.2 c hc).2
section
variable {P : Program} {w : World} {K : PySem.W.Frag} {mg : Str → Option Value} {base : Heap}
/-! _law_text -/
abbrev s_law_text : Stmt := topS 18
theorem sc_law_text : FnScope ["pot", "most", "signs", "k"] ["pot", "most"] (defScope s_law_text) := ⟨rfl, rfl, rfl, by decide +kernel, rfl, by decide +kernel, by decide +kernel⟩
def sp_ltext : Sp := fun vs H Q _ => ∃ (p c : Addr) (ns : List Int) (m : Nat), vs = [.ref p, nV m] ∧ Pot H p c ns ∧ m ≤ 100 ∧ ∀ z H', Go p c ns H H' → TextOk m z → Q (.str z) H'
theorem ok_ltext (F : Def K mg "_law_text" ["pot", "most"] s_law_text) (m_range : mg "range" = none) (m_len : mg "len" = none) (c_law_pick : Cl P w K mg base 2 "_law_pick" sp_law_pick) : Cl P w K mg base 3 "_law_text" sp_ltext := by
  refine F.cl sc_law_text (fun vs H Q E h => ?_) (fun f cdv A outer s H vs Q E hr h => ?_)
  · obtain ⟨p, c, ns, m, rfl, _⟩ := h
    rfl
  obtain ⟨p, c, ns, m, rfl, hP, hm, q⟩ := h
  have nd := sc_law_text.nd
  refine ⟨_, (pss_cons (ps_set (i := 2) nd rfl (Or.inr rfl) pe_str)
    (pss_one (ps_ret (pe_joinK K pe_str (pe_lc (own := [("k", 3)]) (g := gName 3) (tt := tYes) (by rfl) nd (pi_range1 (by rfl) m_range (pa_cons (pe_cl c_law_pick hr (by decide) (by rfl) (pa_cons (pv 0) (pa_cons (pe_op op_add (pv 1) pe_int) pa_nil))) pa_nil)) (blkOk_by (own := [("k", 3)]) (N := ["pot", "most", "signs", "k"]) (sc := defScope s_law_text) (by decide +kernel)) (fun _ _ _ _ _ => (pg_name (i := 3) nd rfl (Or.inl rfl))) (fun _ _ _ _ _ => pts_nil) (fun _ _ _ _ _ => (pe_ix ix_str (pv 2) (pe_cl c_law_pick hr (by decide) (by rfl) (pa_cons (pv 0) (pa_cons (pe_callB call_len_str (by rfl) m_len PySem.boot_len (pa_cons (pv 2) pa_nil)) pa_nil))) (fun _ _ => rfl)))))))), ?_⟩
  rw [sgs_eq, show Str.ofString "" = mk [] by decide +kernel]
  refine ⟨⟨_, rfl⟩, _, rfl, _, rfl, _, _, rfl, rfl, p, c, ns, _, rfl, hP, mny (by omega) (by omega), fun r H1 r0 r1 G1 => ⟨r, rfl, by omega, by omega, fun D nD => lc_range (lo := 0) (n := r.toNat) (fun i H' => ∃ cs : List Nat, Go p c ns H H' ∧ H' D = some (.lst ((cs.map fun x => mk [x]).map V.str)) ∧ cs.length = i ∧ ∀ x ∈ cs, signB x = true ∧ x < 0x110000) ?_ ?_ ?_⟩⟩
  · exact ⟨[], G1.new nD, upd_same, rfl, fun x hx => nomatch hx⟩
  · rintro i H' hi ⟨cs, G, hD, hl, hc⟩
    refine ⟨rfl, ?_⟩
    refine ⟨_, rfl, _, rfl, _, rfl, sgs, rfl, by rw [sgs_len]; decide, p, c, ns, _, rfl, G.pot, ?_, fun r2 H2 r20 r21 G2 => ?_⟩
    · rw [sgs_len]
      exact mny (by decide) (by decide)
    rw [sgs_len] at r21
    obtain ⟨ch, hch, hmem⟩ := sgs_at r20 r21
    have hD2 : H2 D = some (.lst ((cs.map fun x => mk [x]).map V.str)) := G2.get (G1.pot.nep nD) hD
    refine ⟨_, _, _, rfl, rfl, by rw [sgs_len]; decide, hch, _, hD2, ?_, cs ++ [ch], (G.trans G2).mut (G1.free nD), ?_, by rw [List.length_append, hl]; rfl, fun x hx => ?_⟩
    · rw [List.length_map, List.length_map, hl]
      exact small1000 (by omega)
    · rw [upd_same, List.map_append, List.map_append]
      rfl
    · rcases List.mem_append.mp hx with h | h
      · exact hc x h
      · rw [List.mem_singleton.mp h]
        exact sgs_ok _ hmem
  rintro H2 ⟨cs, G2, hD, hl, hcs⟩
  refine ⟨_, _, _, rfl, rfl, .inl (SqL.of hD), ?_, ?_⟩
  · rw [List.map_map, List.length_map, hl]
    have e : ∀ cs : List Nat, (cs.map ((fun x : Str => x.length) ∘ fun x => mk [x])).sum = cs.length := fun cs => by
      induction cs with
      | nil => rfl
      | cons a r ih =>
        rw [List.map_cons, List.sum_cons, ih, List.length_cons]
        exact Nat.add_comm 1 _
    rw [e, hl]
    show _ + _ * 0 ≤ _
    omega
  rw [mk_join]
  exact q _ H2 G2 ⟨by rw [mk_len, hl]; omega, hcs⟩
end
end Kin
namespace Kin
open PySem PySem.Spec PyProof.Rows L2 RZ
/-! ### draws as what an expression gives -/
section
variable {K : PySem.W.Frag} {p c : Addr} {ns : List Int} {rs : List Addr} {H : Hp} {σ : L2.St} {te tm : TE} {G : PyData → Prop}
theorem gv_pick {i : Nat} {m : Int} (hm : Gv K (EnP p c ns rs) tm σ H (· = .int m)) (ok : Mny m) (h : σ[i]? = some (some (.ref p)) := by rfl) : Gv K (EnP p c ns rs) (tCall sp_law_pick [] E0 (tCons (tVar i) (tCons tm tNil))) σ H (fun d => ∃ r : Nat, d = .int (r : Int) ∧ (r : Int) < m) := fun H1 r1 Q q =>
  ⟨_, h, hm H1 r1 _ fun x d H2 r2 hd g => by
    subst g
    cases hd
    exact ⟨p, c, ns, m, rfl, r2.2.2.1, ok, fun r H3 r0 r3 g3 => q _ (.int r) H3 (r2.tr (g3.r r2.2.2.2)) (.int r) ⟨r.toNat, by rw [Int.toNat_of_nonneg r0], by omega⟩⟩⟩
/-- one of a list, drawn -/
theorem gv_one {i : Nat} {m : Nat} {tl : TE} {Gl : List PyData → Prop} (hl : Gv K (EnP p c ns rs) tl σ H (fun d => ∃ ds, d = .list ds ∧ Gl ds)) (m0 : 0 < m ∧ m ≤ 1000) (n : ∀ ds, Gl ds → ds.length = m) (ok : ∀ ds, Gl ds → ∀ d ∈ ds, G d) (h : σ[i]? = some (some (.ref p)) := by rfl) :
    Gv K (EnP p c ns rs) (tOp (rIxL K) tl (tCall sp_law_pick [] E0 (tCons (tVar i) (tCons (tC (.int (m : Int))) tNil)))) σ H G :=
  gv_ixL hl (fun _ _ => gv_pick gv_int (mny (by omega) (by omega)) h) fun d e g1 ⟨r, er, hr⟩ => by
    obtain ⟨ds, rfl, g⟩ := g1
    have hi : r < ds.length := by rw [n ds g]; omega
    exact ⟨ds, r, ds[r], rfl, er, List.getElem?_eq_getElem hi, ok ds g _ (List.getElem_mem hi)⟩
end
theorem gcons {K : PySem.W.Frag} {E : En} {H : Hp} {σ : L2.St} {te : TE} {tA : TA} {G : PyData → Prop} {Gs : List PyData → Prop} {G' : List PyData → Prop} (h : Gv K E te σ H G) (t : GvA K E tA σ H Gs) (k : ∀ d r, G d → Gs r → G' (d :: r)) : GvA K E (tCons te tA) σ H G' := fun H1 r Q q =>
  h H1 r _ fun x d H2 r2 hd g => t H2 (r.tr r2) _ fun xs ds H3 r3 hds gs => q _ _ H3 (r2.tr r3) (.cons (hd.r r3) hds) (k d ds g gs)
theorem ga_all0 {K : PySem.W.Frag} {E : En} {H : Hp} {σ : L2.St} {G : PyData → Prop} : GvA K E tNil σ H (fun l => l.length = 0 ∧ ∀ d ∈ l, G d) := fun H1 r Q q => q [] [] H1 r.rfl .nil ⟨rfl, fun d h => nomatch h⟩
theorem ga_all {K : PySem.W.Frag} {E : En} {H : Hp} {σ : L2.St} {te : TE} {tA : TA} {n : Nat} {G : PyData → Prop} (h : Gv K E te σ H G) (t : GvA K E tA σ H (fun l => l.length = n ∧ ∀ d ∈ l, G d)) : GvA K E (tCons te tA) σ H (fun l => l.length = n + 1 ∧ ∀ d ∈ l, G d) :=
  gcons h t fun d r g gs => ⟨congrArg (· + 1) gs.1, fun e he => by
    rcases List.mem_cons.mp he with rfl | he
    · exact g
    · exact gs.2 e he⟩
theorem gv_eqI {K : PySem.W.Frag} {E : En} {H : Hp} {σ : L2.St} {ta tb : TE} {G1 : Int → Prop} {j : Int} (ha : Gv K E ta σ H (fun d => ∃ i, d = .int i ∧ G1 i)) (hb : Gv K E tb σ H (· = .int j)) : Gv K E (tOp rEq ta tb) σ H (fun d => ∃ i, d = .bool (decide (V.int i = V.int j)) ∧ G1 i) :=
  gv_op (G2 := fun _ => (· = .int j)) ha (fun _ _ => hb) fun x y d e H1 Q r hd he g1 g2 q => by
    obtain ⟨i, rfl, g1⟩ := g1
    subst g2
    cases hd
    cases he
    exact ⟨rfl, q _ _ H1 r.rfl (.bl _) ⟨i, rfl, g1⟩⟩
theorem gv_text {K : PySem.W.Frag} {p c : Addr} {ns : List Int} {rs : List Addr} {H : Hp} {σ : L2.St} {i : Nat} {m : Nat} (hm : m ≤ 100) (h : σ[i]? = some (some (.ref p)) := by rfl) : Gv K (EnP p c ns rs) (tCall sp_ltext [] E0 (tCons (tVar i) (tCons (tC (.int (m : Int))) tNil))) σ H (fun d => ∃ z, d = .str z ∧ TextOk m z) := fun H1 r1 Q q =>
  ⟨_, h, p, c, ns, m, rfl, r1.2.2.1, hm, fun z H' g ok => q _ (.str z) H' (g.r r1.2.2.2) (.str z) ⟨z, rfl, ok⟩⟩
/-- a word and one thing -/
theorem gv_pair {K : PySem.W.Frag} {E : En} {H : Hp} {σ : L2.St} {te : TE} {w : Str} {G : PyData → Prop} (h : Gv K E te σ H G) : Gv K E (tTup (tCons (tC (.str w)) (tCons te tNil))) σ H (fun d => ∃ e, d = .tuple [.str w, e] ∧ G e) :=
  (gv_tup (Gs := fun l => ∃ e, l = [.str w, e] ∧ G e) (gcons gv_str (gcons (Gs := (· = [])) (G' := fun l => ∃ e, l = [e] ∧ G e) h ga_nil fun d r g e => ⟨d, by rw [e], g⟩) fun d r g ⟨e, h1, h2⟩ => ⟨e, by rw [g, h1], h2⟩) fun ds ⟨e, h1, _⟩ => by rw [h1]; show 2 ≤ 1000; decide).imp fun d ⟨ds, h1, e, h2, h3⟩ => ⟨e, by rw [h1, h2], h3⟩
theorem plain_none : plainB (.tuple [.str "none"]) = true := by decide +kernel
theorem plain_not : plainB (.tuple [.str "not"]) = true := by decide +kernel
section
variable {P : Program} {w : World} {K : PySem.W.Frag} {mg : Str → Option Value} {base : Heap}
/-- draws: what such a def gives is data of this sort -/
def sp_draw (K : PySem.W.Frag) (args : Addr → List Addr → Hp → List V → Prop) (G : PyData → Prop) : Sp := fun vs H Q _ => ∃ (p c : Addr) (ns : List Int) (rs : List Addr), args p rs H vs ∧ (EnP p c ns rs).I H ∧ ∀ x d H', Go p c ns H H' → Da K (p :: rs) H' x d → G d → Q x H'
/-! _law_plain_worth -/
abbrev s_law_plain_worth : Stmt := topS 19
theorem sc_law_plain_worth : FnScope ["pot", "way", "far"] ["pot", "way"] (defScope s_law_plain_worth) := ⟨rfl, rfl, rfl, by decide +kernel, rfl, by decide +kernel, by decide +kernel⟩
def PW (d : PyData) : Prop := plainB d = true ∧ Fi 1 30 d
theorem ok_lplain_worth (F : Def K mg "_law_plain_worth" ["pot", "way"] s_law_plain_worth) (c_law_pick : Cl P w K mg base 2 "_law_pick" sp_law_pick) (c_law_text : Cl P w K mg base 3 "_law_text" sp_ltext) : Cl P w K mg base 4 "_law_plain_worth" (sp_draw K (fun p _ H vs => ∃ n : Nat, vs = [.ref p, nV n]) PW) := by
  refine F.cl sc_law_plain_worth (fun vs H Q E h => ?_) (fun f cdv A outer s H vs Q E hr h => ?_)
  · obtain ⟨p, c, ns, rs, ⟨n, rfl⟩, _⟩ := h
    rfl
  obtain ⟨p, c, ns, rs, ⟨n, rfl⟩, hP, q⟩ := h
  have nd := sc_law_plain_worth.nd
  refine ⟨_, (pss_cons (ps_if (pt_cmpR op_eq (pv 1) pe_int (by rfl)) (pss_one (ps_ret (pe_ix (ix_listK K) (pe_lst (pa_cons (pe_tup (pa_cons pe_str pa_nil)) (pa_cons (pe_tup (pa_cons pe_str pa_nil)) pa_nil))) (pe_cl c_law_pick hr (by decide) (by rfl) (pa_cons (pv 0) (pa_cons pe_int pa_nil))) (fun _ _ => rfl)))) pss_nil)
    (pss_cons (ps_if (pt_cmpR op_eq (pv 1) pe_int (by rfl)) (pss_one (ps_ret (pe_tup (pa_cons pe_str (pa_cons (pe_cmpR op_eq (pe_cl c_law_pick hr (by decide) (by rfl) (pa_cons (pv 0) (pa_cons pe_int pa_nil))) pe_int (by rfl)) pa_nil))))) pss_nil)
    (pss_cons (ps_if (pt_cmpR op_eq (pv 1) pe_int (by rfl)) (pss_cons (ps_set (i := 2) nd rfl (Or.inl rfl) (pe_lst (pa_cons pe_int (pa_cons pe_int (pa_cons (pe_un un_neg pe_int) (pa_cons (pe_op op_pow pe_int pe_int) (pa_cons (pe_un un_neg (pe_op op_pow pe_int pe_int)) (pa_cons (pe_op op_sub (pe_cl c_law_pick hr (by decide) (by rfl) (pa_cons (pv 0) (pa_cons (pe_op op_add (pe_op op_mul pe_int (pe_op op_pow pe_int pe_int)) pe_int) pa_nil))) (pe_op op_pow pe_int pe_int)) pa_nil))))))))
    (pss_one (ps_ret (pe_tup (pa_cons pe_str (pa_cons (pe_ix (ix_listK K) (pv 2) (pe_cl c_law_pick hr (by decide) (by rfl) (pa_cons (pv 0) (pa_cons pe_int pa_nil))) (fun _ _ => rfl)) pa_nil)))))) pss_nil)
    (pss_one (ps_ret (pe_tup (pa_cons pe_str (pa_cons (pe_ix (ix_listK K) (pe_lst (pa_cons pe_str (pa_cons (pe_op op_repS pe_str pe_int) (pa_cons (pe_cl c_law_text hr (by decide) (by rfl) (pa_cons (pv 0) (pa_cons pe_int pa_nil))) pa_nil)))) (pe_cl c_law_pick hr (by decide) (by rfl) (pa_cons (pv 0) (pa_cons pe_int pa_nil))) (fun _ _ => rfl)) pa_nil)))))))), ?_⟩
  have out : ∀ {x d H'}, (EnP p c ns rs).R H H' → Da K (EnP p c ns rs).av H' x d → PW d → Q x H' := fun r hd g => q _ _ _ (R.go r) hd g
  refine ⟨_, rfl, rfl, _, rfl, ite2 (fun _ => ?_) (fun _ => ?_)⟩
  · refine gs_ret (K := K) (E := EnP p c ns rs) (G := PW) (gv_one (m := 2) (Gl := (· = [.tuple [.str "none"], .tuple [.str "not"]])) ((gv_lst' (ga_cons' (gv_tup' (ga_cons' gv_str ga_nil)) (ga_cons' (gv_tup' (ga_cons' gv_str ga_nil)) ga_nil))).imp fun d e => ⟨_, e, rfl⟩) (by decide) (fun ds e => by rw [e]; rfl) (fun ds e d hd => ?_)) hP fun x d H1 r hd g => out r hd g
    rw [e] at hd
    rcases List.mem_cons.mp hd with rfl | hd
    · exact ⟨plain_none, by decide +kernel, by decide +kernel, by decide +kernel⟩
    · rw [List.mem_singleton.mp hd]
      exact ⟨plain_not, by decide +kernel, by decide +kernel, by decide +kernel⟩
  refine ⟨_, rfl, rfl, _, rfl, ite2 (fun _ => ?_) (fun _ => ?_)⟩
  · refine gs_ret (K := K) (E := EnP p c ns rs) (gv_pair (gv_eqI (G1 := fun _ => True) ((gv_pick gv_int (mny (by decide) (by decide))).imp fun d ⟨r, e, _⟩ => ⟨_, e, trivial⟩) gv_int)) hP fun x d H1 r hd g => ?_
    obtain ⟨e, rfl, i, rfl, _⟩ := g
    generalize decide (V.int i = V.int 0) = b at hd
    exact out r hd (by cases b <;> exact ⟨by decide +kernel, by decide +kernel, by decide +kernel, by decide +kernel⟩)
  refine ⟨_, rfl, rfl, _, rfl, ite2 (fun _ => ?_) (fun _ => ?_)⟩
  · refine gs_asg (K := K) (E := EnP p c ns rs) (G := fun d => ∃ ds, d = .list ds ∧ ds.length = 6 ∧ ∀ e ∈ ds, ∃ i : Int, e = .int i ∧ -(10 ^ 9) ≤ i ∧ i ≤ 10 ^ 9) (gv_lst (ga_all ?_ (ga_all ?_ (ga_all ?_ (ga_all ?_ (ga_all ?_ (ga_all ?_ ga_all0)))))) fun ds g => by rw [g.1]; decide) hP fun x d H1 r1 hd g1 => ?_
    · exact gv_int.imp fun d e => ⟨_, e, by decide, by decide⟩
    · exact gv_int.imp fun d e => ⟨_, e, by decide, by decide⟩
    · exact (gi_neg gv_int).imp fun d e => ⟨_, e, by decide, by decide⟩
    · exact (gi_op gv_int gv_int ⟨by decide, by decide, by decide⟩).imp fun d e => ⟨_, e, by decide, by decide⟩
    · exact (gi_neg (gi_op gv_int gv_int ⟨by decide, by decide, by decide⟩)).imp fun d e => ⟨_, e, by decide, by decide⟩
    · refine (gv_I0c (G1 := fun i => 0 ≤ i ∧ i < 2 * 10 ^ Int.toNat 9 + 1) (G2 := fun j => j = 10 ^ Int.toNat 9) (fd := fun i j => .int (i - j)) ?_ ?_ fun i j H => .int _).imp fun d ⟨i, j, e, h1, h2⟩ => ⟨_, e, ?_, ?_⟩
      · refine (gv_pick (m := 2 * 10 ^ Int.toNat 9 + 1) ?_ ?_).imp fun d ⟨r, e, h⟩ => ⟨_, e, Int.natCast_nonneg r, h⟩
        · exact gi_op0 (gi_op gv_int (gi_op gv_int gv_int ⟨by decide, by decide, by decide⟩) (.inl ⟨by decide, by decide⟩)) gv_int
        · exact ⟨by decide +kernel, by decide +kernel⟩
      · exact (gi_op gv_int gv_int ⟨by decide, by decide, by decide⟩).imp fun d e => ⟨_, e, rfl⟩
      · have := h1.1
        have e9 : (10 : Int) ^ Int.toNat 9 = 1000000000 := by decide
        rw [e9] at h1 h2
        omega
      · have e9 : (10 : Int) ^ Int.toNat 9 = 1000000000 := by decide
        rw [e9] at h1 h2
        have := h1.2
        omega
    · obtain ⟨ds, rfl, hl, hall⟩ := g1
      refine gs_ret (K := K) (E := EnP p c ns rs) (gv_pair (gv_one (m := 6) (Gl := fun l => l = ds) ((gv_var hd).imp fun d e => ⟨ds, e, rfl⟩) (by decide) (fun l e => by rw [e]; exact hl) (fun l e d he => hall d (e ▸ he)))) r1.2.2 fun x d H1 r hd g => ?_
      obtain ⟨e, rfl, i, rfl, h1, h2⟩ := g
      refine out (r1.tr r) hd ⟨?_, ?_, (by show 1 ≤ 1; decide), ?_⟩
      · rw [plain2, eqvB, eqvB, decide_eq_false (show ¬ ("number" : Str) = "truth" by decide +kernel), decide_eq_true rfl]
        show (decide (-(10 ^ 9) ≤ i) && decide (i ≤ 10 ^ 9)) = true
        rw [decide_eq_true h1, decide_eq_true h2]
        rfl
      · show (fine (.str "number") && (decide (i.natAbs < 10 ^ 31) && true)) = true
        rw [decide_eq_true (by omega)]
        decide +kernel
      · show PyData.bulk (.str "number") + 1 + (0 + 1 + 0) ≤ 30
        decide +kernel
  · dsimp only [tNext]
    refine gs_ret (K := K) (E := EnP p c ns rs) (gv_pair (gv_one (i := 0) (m := 3) (G := fun d => ∃ z, d = .str z ∧ TextOk 20 z) (Gl := fun l => l.length = 3 ∧ ∀ d ∈ l, ∃ z, d = .str z ∧ TextOk 20 z) (gv_lst (ga_all ?_ (ga_all ?_ (ga_all ?_ ga_all0))) fun ds g => by rw [g.1]; decide) (by decide) (fun l e => e.1) (fun l e => e.2) ?_)) hP fun x d H1 r hd g => ?_
    · exact gv_str.imp fun d e => ⟨_, e, by decide +kernel, by decide +kernel⟩
    · exact (gv_repS gv_str gv_int ⟨by decide, by decide, by decide, by decide⟩).imp fun d e => ⟨_, e, by decide +kernel, by decide +kernel⟩
    · exact gv_text (m := 20) (i := 0) (by decide) rfl
    · rfl
    · obtain ⟨e, rfl, z, rfl, hz⟩ := g
      refine out r hd ⟨?_, ?_, (by show 1 ≤ 1; decide), ?_⟩
      · rw [plain2, eqvB, eqvB, eqvB, decide_eq_false (show ¬ ("text" : Str) = "truth" by decide +kernel), decide_eq_false (show ¬ ("text" : Str) = "number" by decide +kernel), decide_eq_true rfl]
        show (true && (decide (z.length ≤ 20) && z.cps.toList.all signB)) = true
        rw [decide_eq_true hz.1, List.all_eq_true.mpr fun c hc => (hz.2 c hc).1]
        rfl
      · show (fine (.str "text") && (fine (.str z) && true)) = true
        rw [hz.fine (by decide)]
        decide +kernel
      · have e : PyData.bulk (.str "text") = 4 := by decide +kernel
        have l : z.cps.size ≤ 20 := hz.1
        show PyData.bulk (.str "text") + 1 + (z.cps.size + 1 + 0) ≤ 30
        omega
end
end Kin
namespace Kin
open PySem PySem.Spec PyProof.Rows L2 RZ
theorem IsName.text {z : Str} (h : IsName z) : TextOk 8 z := by
  obtain ⟨cs, rfl, h1, h2, h3⟩ := h
  refine ⟨h2, fun c hc => ?_⟩
  have := h3 c hc
  refine ⟨?_, by omega⟩
  have e1 : decide (([c] : List Nat) < [32]) = false := decide_eq_false fun h => by rw [lt1] at h; omega
  have e2 : decide (([126] : List Nat) < [c]) = false := decide_eq_false fun h => by rw [lt1] at h; omega
  unfold signB
  rw [e1, e2]
  rfl
theorem IsName.nameB {z : Str} (h : IsName z) : nameB (.str z) = true := by
  obtain ⟨cs, rfl, h1, h2, h3⟩ := h
  show ((decide (1 ≤ cs.length) && decide (cs.length ≤ 8)) && cs.all _) = true
  rw [decide_eq_true h1, decide_eq_true h2, Bool.true_and, Bool.true_and, List.all_eq_true]
  intro c hc
  have := h3 c hc
  rw [decide_eq_false (fun h => by rw [lt1] at h; omega), decide_eq_false (fun h => by rw [lt1] at h; omega)]
  rfl
theorem IsName.bulk {z : Str} (h : IsName z) : PyData.bulk (.str z) ≤ 8 := h.text.1
theorem IsName.fine {z : Str} (h : IsName z) : fine (.str z) = true := h.text.fine (by decide)
/-- an unbound worth, a worth, as drawn -/
def UW (d : PyData) : Prop := unboundB d = true ∧ Fi 1 40 d
def WW (d : PyData) : Prop := worthB d = true ∧ Fi 2 90 d
theorem unbound_is {d : PyData} (h : unboundB d = true) : worthB d = true := by
  cases e : worthB d with
  | true => rfl
  | false => rw [unbound_worth e] at h; cases h
theorem UW.ww {d : PyData} (h : UW d) : WW d := ⟨unbound_is h.1, h.2.mono (by decide) (by decide)⟩
theorem PW.uw {d : PyData} (h : PW d) : UW d := by
  refine ⟨?_, h.2.mono (by decide) (by decide)⟩
  have e := plain_worth h.1
  obtain ⟨z, t, rfl, e2⟩ := worth_form e
  rw [e2]
  have hz : z ≠ "bound" := fun c => by
    subst c
    have := h.1
    match t, this with
    | [], h => rw [plain1, eqvB, eqvB] at h; revert h; decide +kernel
    | [d1], h => rw [plain2, eqvB, eqvB, eqvB, decide_eq_false (show ¬ ("bound" : Str) = "truth" by decide +kernel), decide_eq_false (show ¬ ("bound" : Str) = "number" by decide +kernel), decide_eq_false (show ¬ ("bound" : Str) = "text" by decide +kernel)] at h; cases h
    | d1 :: d2 :: t, h => rw [plain3] at h; cases h
  rw [decide_eq_false hz]
  rfl
theorem unbound2 (d0 d1 : PyData) : unboundB (.tuple [d0, d1]) = worthB (.tuple [d0, d1]) := by
  simp [worthB, formB]
theorem unbound3 (d0 d1 d2 : PyData) : unboundB (.tuple [d0, d1, d2]) = worthB (.tuple [d0, d1, d2]) := by
  simp [worthB, formB]
def bk2 (d0 d1 : PyData) : PyData.bulk (.tuple [d0, d1]) = d0.bulk + 1 + (d1.bulk + 1 + 0) := rfl
theorem fi2 {w : Str} {d1 : PyData} {a b : Nat} (hw : fine (.str w) = true ∧ PyData.bulk (.str w) ≤ 8) (h : Fi a b d1) : Fi (a + 1) (b + 10) (.tuple [.str w, d1]) := by
  refine ⟨?_, ?_, ?_⟩
  · show (fine (.str w) && (fine d1 && true)) = true
    rw [hw.1, h.f]
    rfl
  · have := h.dep
    show max 0 (max d1.depth 0) + 1 ≤ a + 1
    omega
  · have := h.blk
    have := hw.2
    show PyData.bulk (.str w) + 1 + (d1.bulk + 1 + 0) ≤ b + 10
    omega
theorem fi3 {w : Str} {d1 d2 : PyData} {a b b2 : Nat} (hw : fine (.str w) = true ∧ PyData.bulk (.str w) ≤ 8) (h : Fi a b d1) (h2 : Fi a b2 d2) : Fi (a + 1) (b + b2 + 11) (.tuple [.str w, d1, d2]) := by
  refine ⟨?_, ?_, ?_⟩
  · show (fine (.str w) && (fine d1 && (fine d2 && true))) = true
    rw [hw.1, h.f, h2.f]
    rfl
  · have := h.dep
    have := h2.dep
    show max 0 (max d1.depth (max d2.depth 0)) + 1 ≤ a + 1
    omega
  · have := h.blk
    have := h2.blk
    have := hw.2
    show PyData.bulk (.str w) + 1 + (d1.bulk + 1 + (d2.bulk + 1 + 0)) ≤ b + b2 + 11
    omega
theorem fi4 {w : Str} {d1 d2 d3 : PyData} {a b b2 b3 : Nat} (hw : fine (.str w) = true ∧ PyData.bulk (.str w) ≤ 8) (h : Fi a b d1) (h2 : Fi a b2 d2) (h3 : Fi a b3 d3) : Fi (a + 1) (b + b2 + b3 + 12) (.tuple [.str w, d1, d2, d3]) := by
  refine ⟨?_, ?_, ?_⟩
  · show (fine (.str w) && (fine d1 && (fine d2 && (fine d3 && true)))) = true
    rw [hw.1, h.f, h2.f, h3.f]
    rfl
  · have := h.dep
    have := h2.dep
    have := h3.dep
    show max 0 (max d1.depth (max d2.depth (max d3.depth 0))) + 1 ≤ a + 1
    omega
  · have := h.blk
    have := h2.blk
    have := h3.blk
    have := hw.2
    show PyData.bulk (.str w) + 1 + (d1.bulk + 1 + (d2.bulk + 1 + (d3.bulk + 1 + 0))) ≤ b + b2 + b3 + 12
    omega
theorem IsName.fi {z : Str} (h : IsName z) : Fi 0 8 (.str z) := ⟨h.fine, Nat.le_refl _, h.bulk⟩
/-- names as data -/
def NamesAt (K : PySem.W.Frag) (av : List Addr) (H : Hp) (x : V) (zs : List Str) : Prop := Da K av H x (.list (zs.map PyData.str)) ∧ 2 ≤ zs.length ∧ zs.length ≤ 26 ∧ ∀ z ∈ zs, IsName z
section
variable {K : PySem.W.Frag} {p c : Addr} {ns : List Int} {rs : List Addr} {H : Hp} {σ : L2.St}
/-- a name, drawn -/
theorem gv_name {x : V} {zs : List Str} {i j : Nat} (h : NamesAt K (p :: rs) H x zs) (hi : σ[i]? = some (some (.ref p)) := by rfl) (hj : σ[j]? = some (some x) := by rfl) : Gv K (EnP p c ns rs) (tOp (rIxL K) (tVar j) (tCall sp_law_pick [] E0 (tCons (tVar i) (tCons (tCB (rLenK K) (tCons (tVar j) tNil)) tNil)))) σ H (fun d => ∃ z, d = .str z ∧ IsName z) := by
  obtain ⟨h, h2, h26, hn⟩ := h
  have hv := gv_var (K := K) (E := EnP p c ns rs) h hj
  refine gv_ixL hv (fun _ _ => gv_pick (gv_len (hv.imp fun d e => .inl e)) (by rw [List.length_map]; exact mny (by omega) (by omega)) hi) fun d e g1 ⟨r, er, hr⟩ => ?_
  have hr2 : r < zs.length := by rw [List.length_map] at hr; omega
  exact ⟨_, r, .str zs[r], g1, er, by rw [List.getElem?_map, List.getElem?_eq_getElem hr2]; rfl, _, rfl, hn _ (List.getElem_mem hr2)⟩
end
section
variable {P : Program} {w : World} {K : PySem.W.Frag} {mg : Str → Option Value} {base : Heap}
/-! _law_worth -/
abbrev s_law_worth : Stmt := topS 20
theorem sc_law_worth : FnScope ["pot", "names", "bound", "way", "name", "other"] ["pot", "names", "bound"] (defScope s_law_worth) := ⟨rfl, rfl, rfl, by decide +kernel, rfl, by decide +kernel, by decide +kernel⟩
def sp_wdraw (K : PySem.W.Frag) (b : Bool) (G : PyData → Prop) : Sp := sp_draw K (fun p rs H vs => ∃ x zs, vs = [.ref p, x, .bl b] ∧ NamesAt K (p :: rs) H x zs) G
theorem ok_lwdraw {b : Bool} {S : Sp} {k : Nat} (hk : 4 ≤ k) (F : Def K mg "_law_worth" ["pot", "names", "bound"] s_law_worth) (M : MB mg) (c_law_pick : Cl P w K mg base 2 "_law_pick" sp_law_pick) (c_law_plain_worth : Cl P w K mg base 4 "_law_plain_worth" (sp_draw K (fun p _ H vs => ∃ n : Nat, vs = [.ref p, nV n]) PW)) (c_law_worth : Cl P w K mg base k "_law_worth" S) (hS : b = true → ∀ vs H Q E, sp_wdraw K false UW vs H Q E → S vs H Q E) :
    Cl P w K mg base (k + 1) "_law_worth" (sp_wdraw K b (fun d => if b = true then WW d else UW d)) := by
  refine F.cl sc_law_worth (fun vs H Q E h => ?_) (fun f cdv A outer s H vs Q E hr h => ?_)
  · obtain ⟨p, c, ns, rs, ⟨x, zs, rfl, _⟩, _⟩ := h
    rfl
  obtain ⟨p, c, ns, rs, ⟨x, zs, rfl, hN⟩, hP, q⟩ := h
  have nd := sc_law_worth.nd
  have m_int := M.m_int
  have m_len := M.m_len
  have hk2 : 2 ≤ k := by omega
  refine ⟨_, (pss_cons (ps_set (i := 3) nd rfl (Or.inl rfl) (pe_cl c_law_pick hr hk2 (by rfl) (pa_cons (pv 0) (pa_cons (pe_op op_add pe_int (pe_callTy call_int1 (by rfl) m_int (by decide +kernel) (pa_cons (pv 2) pa_nil))) pa_nil))))
    (pss_cons (ps_if (pt_cmpR op_lt (pv 3) pe_int (by rfl)) (pss_one (ps_ret (pe_cl c_law_plain_worth hr hk (by rfl) (pa_cons (pv 0) (pa_cons (pv 3) pa_nil))))) pss_nil)
    (pss_cons (ps_set (i := 4) nd rfl (Or.inl rfl) (pe_ix (ix_listK K) (pv 1) (pe_cl c_law_pick hr hk2 (by rfl) (pa_cons (pv 0) (pa_cons (pe_callB (call_lenK K) (by rfl) m_len PySem.boot_len (pa_cons (pv 1) pa_nil)) pa_nil))) (fun _ _ => rfl)))
    (pss_cons (ps_if (pt_cmpR op_lt (pv 3) pe_int (by rfl)) (pss_one (ps_ret (pe_tup (pa_cons (pe_ix (ix_listK K) (pe_lst (pa_cons pe_str (pa_cons pe_str pa_nil))) (pe_op op_sub (pv 3) pe_int) (fun _ _ => rfl)) (pa_cons (pv 4) pa_nil))))) pss_nil)
    (pss_cons (ps_if (pt_cmpR op_eq (pv 3) pe_int (by rfl)) (pss_one (ps_ret (pe_tup (pa_cons pe_str (pa_cons (pe_ix (ix_listK K) (pe_lst (pa_cons pe_int (pa_cons pe_int (pa_cons (pe_cl c_law_pick hr hk2 (by rfl) (pa_cons (pv 0) (pa_cons pe_int pa_nil))) (pa_cons (pe_cl c_law_pick hr hk2 (by rfl) (pa_cons (pv 0) (pa_cons (pe_op op_pow pe_int pe_int) pa_nil))) pa_nil))))) (pe_cl c_law_pick hr hk2 (by rfl) (pa_cons (pv 0) (pa_cons pe_int pa_nil))) (fun _ _ => rfl)) pa_nil))))) pss_nil)
    (pss_cons (ps_set (i := 5) nd rfl (Or.inl rfl) (pe_ix (ix_listK K) (pv 1) (pe_cl c_law_pick hr hk2 (by rfl) (pa_cons (pv 0) (pa_cons (pe_callB (call_lenK K) (by rfl) m_len PySem.boot_len (pa_cons (pv 1) pa_nil)) pa_nil))) (fun _ _ => rfl)))
    (pss_cons (ps_if (pt_cmpR op_eq (pv 3) pe_int (by rfl)) (pss_one (ps_ret (pe_tup (pa_cons pe_str (pa_cons (pv 4) (pa_cons (pe_ix (ix_listK K) (pe_lst (pa_cons pe_non (pa_cons (pv 5) pa_nil))) (pe_cl c_law_pick hr hk2 (by rfl) (pa_cons (pv 0) (pa_cons pe_int pa_nil))) (fun _ _ => rfl)) pa_nil)))))) pss_nil)
    (pss_one (ps_ret (pe_tup (pa_cons pe_str (pa_cons (pv 4) (pa_cons (pv 5) (pa_cons (pe_cl c_law_worth hr (Nat.le_refl k) (by rfl) (pa_cons (pv 0) (pa_cons (pv 1) (pa_cons pe_bl pa_nil)))) pa_nil)))))))))))))), ?_⟩
  have out : ∀ {x d H'}, (EnP p c ns rs).R H H' → Da K (EnP p c ns rs).av H' x d → UW d → Q x H' := fun r hd g => q _ _ _ (R.go r) hd (by
    show if b = true then _ else _
    by_cases e : b = true
    · rw [if_pos e]; exact g.ww
    · rw [if_neg e]; exact g)
  refine ⟨_, rfl, _, rfl, .inr ⟨b, rfl, _, _, rfl, rfl, p, c, ns, _, rfl, hP.1, mny ?_ ?_, fun r H1 r0 r1 G1 => ?_⟩⟩
  · cases b <;> decide
  · cases b <;> decide
  have R1 := G1.r hP.2
  have i1 : (EnP p c ns rs).I H1 := R1.2.2
  refine ⟨_, rfl, _, _, rfl, rfl, _, rfl, ite2 (fun c1 => ?_) (fun c1 => ?_)⟩
  · exact ⟨_, rfl, _, rfl, p, c, ns, rs, ⟨r.toNat, by show [V.ref p, V.int r] = [V.ref p, V.int ((r.toNat : Nat) : Int)]; rw [Int.toNat_of_nonneg r0]⟩, i1, fun x d H2 g hd pw => out (R1.tr (g.r i1.2)) hd pw.uw⟩
  dsimp only [tNext]
  have N1 : NamesAt K (p :: rs) H1 x zs := ⟨hN.1.r R1, hN.2⟩
  refine gs_asg (K := K) (E := EnP p c ns rs) (gv_name N1) i1 fun y d2 H2 R2 hd2 ⟨z, ez, hz⟩ => ?_
  subst ez
  have i2 : (EnP p c ns rs).I H2 := R2.2.2
  refine ⟨_, rfl, _, _, rfl, rfl, _, rfl, ite2 (fun c2 => ?_) (fun c2 => ?_)⟩
  · -- a kind or a deed
    have c1' : ¬ r < 4 := fun h => c1 (decide_eq_true h)
    have c2' := of_decide_eq_true c2
    refine gs_ret (K := K) (E := EnP p c ns rs) (G := fun d => ∃ w, d = .tuple [.str w, .str z] ∧ (w = "kind" ∨ w = "deed")) ?_ i2 fun x d H3 r3 hd ⟨wd, ed, hw⟩ => ?_
    · refine (gv_tup (Gs := fun l => ∃ w, l = [.str w, .str z] ∧ (w = "kind" ∨ w = "deed")) (gcons (G := fun d => ∃ w, d = .str w ∧ (w = "kind" ∨ w = "deed")) (Gs := (· = [.str z])) (gv_ixL (gv_lst' (ga_cons' gv_str (ga_cons' gv_str ga_nil))) (fun _ _ => gi_op0 (gv_var (.int r)) gv_int) fun d e g1 g2 => ?_) (ga_cons' (gv_var hd2) ga_nil) fun d l ⟨wd, e1, e2⟩ e3 => ⟨wd, by rw [e1, e3], e2⟩) fun l ⟨wd, e1, _⟩ => by rw [e1]; show 2 ≤ 1000; decide).imp fun d ⟨l, e1, wd, e2, e3⟩ => ⟨wd, by rw [e1, e2], e3⟩
      subst g1 g2
      rcases (by omega : r = 4 ∨ r = 5) with rfl | rfl
      · exact ⟨_, 0, _, rfl, rfl, rfl, _, rfl, .inl rfl⟩
      · exact ⟨_, 1, _, rfl, rfl, rfl, _, rfl, .inr rfl⟩
    · subst ed
      refine out ((R1.tr R2).tr r3) hd ⟨?_, ?_⟩
      · rw [unbound2, worth2, eqvB, eqvB, if_pos (by rcases hw with rfl | rfl <;> decide +kernel)]
        exact hz.nameB
      · exact (fi2 (by rcases hw with rfl | rfl <;> decide +kernel) hz.fi).mono (by decide) (by decide)
  dsimp only [tNext]
  refine ⟨_, rfl, rfl, _, rfl, ite2 (fun c3 => ?_) (fun c3 => ?_)⟩
  · refine gs_ret (K := K) (E := EnP p c ns rs) (gv_pair (gv_one (m := 4) (G := fun d => ∃ i : Int, d = .int i ∧ 0 ≤ i ∧ i < 10 ^ 30) (Gl := fun l => l.length = 4 ∧ ∀ d ∈ l, ∃ i : Int, d = .int i ∧ 0 ≤ i ∧ i < 10 ^ 30) (gv_lst (ga_all ?_ (ga_all ?_ (ga_all ?_ (ga_all ?_ ga_all0)))) fun ds g => by rw [g.1]; decide) (by decide) (fun l e => e.1) (fun l e => e.2) ?_)) i2 fun x d H3 r3 hd g => ?_
    · exact gv_int.imp fun d e => ⟨_, e, by decide, by decide +kernel⟩
    · exact gv_int.imp fun d e => ⟨_, e, by decide, by decide +kernel⟩
    · exact (gv_pick (m := 60) gv_int (mny (by decide) (by decide))).imp fun d ⟨r, e, h⟩ => ⟨_, e, Int.natCast_nonneg r, Int.lt_of_lt_of_le h (by decide +kernel)⟩
    · exact (gv_pick (m := 10 ^ Int.toNat 30) (gi_op gv_int gv_int ⟨by decide, by decide, by decide⟩) ⟨by decide +kernel, by decide +kernel⟩).imp fun d ⟨r, e, h⟩ => ⟨_, e, Int.natCast_nonneg r, Int.lt_of_lt_of_le h (by decide +kernel)⟩
    · rfl
    · obtain ⟨e, rfl, i, rfl, h1, h2⟩ := g
      refine out ((R1.tr R2).tr r3) hd ⟨?_, ?_⟩
      · rw [unbound2, worth2, eqvB, eqvB, eqvB, if_neg (by decide +kernel), if_pos (by decide +kernel)]
        exact decide_eq_true h1
      · refine (fi2 (a := 0) (b := 0) (by decide +kernel) ⟨?_, Nat.le_refl _, Nat.le_refl _⟩).mono (by decide) (by decide)
        have e : (10 : Nat) ^ 31 = 10000000000000000000000000000000 := by decide +kernel
        have e2 : (10 : Int) ^ 30 = 1000000000000000000000000000000 := by decide +kernel
        rw [e2] at h2
        exact decide_eq_true (by rw [e]; omega)
  dsimp only [tNext]
  have N2 : NamesAt K (p :: rs) H2 x zs := ⟨N1.1.r R2, hN.2⟩
  refine gs_asg (K := K) (E := EnP p c ns rs) (gv_name N2) i2 fun y2 d3 H3 R3 hd3 ⟨z2, ez2, hz2⟩ => ?_
  subst ez2
  have i3 : (EnP p c ns rs).I H3 := R3.2.2
  refine ⟨_, rfl, rfl, _, rfl, ite2 (fun c4 => ?_) (fun c4 => ?_)⟩
  · have hd2' := hd2.r R3
    refine gs_ret (K := K) (E := EnP p c ns rs) (G := fun d => ∃ e, d = .tuple [.str "gate", .str z, e] ∧ (e = .none ∨ e = .str z2)) ?_ i3 fun x d H4 r4 hd ⟨e, ed, he⟩ => ?_
    · refine (gv_tup (Gs := fun l => ∃ e, l = [.str "gate", .str z, e] ∧ (e = .none ∨ e = .str z2)) (gcons (G := (· = .str "gate")) (Gs := fun l => ∃ e, l = [.str z, e] ∧ (e = .none ∨ e = .str z2)) gv_str (gcons (G := (· = .str z)) (Gs := fun l => ∃ e, l = [e] ∧ (e = .none ∨ e = .str z2)) (gv_var hd2') (gcons (Gs := (· = [])) (gv_one (i := 0) (m := 2) (G := fun e => e = .none ∨ e = .str z2) (Gl := (· = [.none, .str z2])) ((gv_lst' (ga_cons' gv_non (ga_cons' (gv_var hd3) ga_nil)) (by show 2 ≤ 1000; decide)).imp fun d e => ⟨_, e, rfl⟩) (by decide) (fun l e => by rw [e]; rfl) (fun l e d hm => ?_) ?_) ga_nil fun d l g e => ⟨d, by rw [e], g⟩) fun d l e1 ⟨e, e2, e3⟩ => ⟨e, by rw [e1, e2], e3⟩) fun d l e1 ⟨e, e2, e3⟩ => ⟨e, by rw [e1, e2], e3⟩) fun l ⟨e, e1, _⟩ => by rw [e1]; show 3 ≤ 1000; decide).imp fun d ⟨l, e1, e, e2, e3⟩ => ⟨e, by rw [e1, e2], e3⟩
      · rw [e] at hm
        rcases List.mem_cons.mp hm with rfl | hm
        · exact .inl rfl
        · exact .inr (List.mem_singleton.mp hm)
      · rfl
    · subst ed
      refine out (((R1.tr R2).tr R3).tr r4) hd ⟨?_, ?_⟩
      · rw [unbound3, worth3, eqvB, decide_eq_true rfl, hz.nameB]
        rcases he with rfl | rfl
        · rfl
        · rw [hz2.nameB]
          rfl
      · refine (fi3 (a := 0) (b := 8) (b2 := 8) (by decide +kernel) hz.fi ?_).mono (by decide) (by decide)
        rcases he with rfl | rfl
        · exact ⟨rfl, Nat.le_refl _, Nat.zero_le _⟩
        · exact hz2.fi
  dsimp only [tNext]
  have hb : b = true := by
    cases b with
    | true => rfl
    | false =>
      have c2' : ¬ r < 6 := fun h => c2 (decide_eq_true h)
      have c3' : ¬ r = 6 := fun h => c3 (decide_eq_true (by rw [h]))
      have c4' : ¬ r = 7 := fun h => c4 (decide_eq_true (by rw [h]))
      have r1' : r < 8 + 0 := r1
      omega
  have hd2' := hd2.r R3
  have N3 : NamesAt K (p :: rs) H3 x zs := ⟨N2.1.r R3, hN.2⟩
  have rec1 : Gv K (EnP p c ns rs) (tCall S [] E0 (tCons (tVar 0) (tCons (tVar 1) (tCons (tC (.bl false)) tNil)))) [some (.ref p), some x, some (.bl b), some (.int r), some y, some y2] H3 UW := fun H4 r4 Q' q' =>
    ⟨_, rfl, _, rfl, hS hb _ _ _ _ ⟨p, c, ns, rs, ⟨x, zs, rfl, N3.1.r r4, hN.2⟩, r4.2.2, fun x d H5 g hd uw => q' x d H5 (r4.rfl.tr (g.r r4.2.2.2)) hd uw⟩⟩
  refine gs_ret (K := K) (E := EnP p c ns rs) (G := fun d => ∃ e, d = .tuple [.str "bound", .str z, .str z2, e] ∧ UW e) ?_ i3 fun x d H4 r4 hd ⟨e, ed, he⟩ => ?_
  · exact (gv_tup (Gs := fun l => ∃ e, l = [.str "bound", .str z, .str z2, e] ∧ UW e) (gcons (G := (· = .str "bound")) (Gs := fun l => ∃ e, l = [.str z, .str z2, e] ∧ UW e) gv_str (gcons (G := (· = .str z)) (Gs := fun l => ∃ e, l = [.str z2, e] ∧ UW e) (gv_var hd2') (gcons (G := (· = .str z2)) (Gs := fun l => ∃ e, l = [e] ∧ UW e) (gv_var hd3) (gcons (Gs := (· = [])) rec1 ga_nil fun d l g e => ⟨d, by rw [e], g⟩) fun d l e1 ⟨e, e2, e3⟩ => ⟨e, by rw [e1, e2], e3⟩) fun d l e1 ⟨e, e2, e3⟩ => ⟨e, by rw [e1, e2], e3⟩) fun d l e1 ⟨e, e2, e3⟩ => ⟨e, by rw [e1, e2], e3⟩) fun l ⟨e, e1, _⟩ => by rw [e1]; show 4 ≤ 1000; decide).imp fun d ⟨l, e1, e, e2, e3⟩ => ⟨e, by rw [e1, e2], e3⟩
  · subst ed
    refine q _ _ _ (R.go (((R1.tr R2).tr R3).tr r4)) hd ?_
    show if b = true then _ else _
    rw [if_pos hb]
    refine ⟨?_, (fi4 (a := 1) (b := 8) (b2 := 8) (b3 := 40) (by decide +kernel) (hz.fi.mono (by decide) (by decide)) (hz2.fi.mono (by decide) (by decide)) he.2).mono (by decide) (by decide)⟩
    rw [worth4, eqvB, decide_eq_true rfl, hz.nameB, hz2.nameB, he.1]
    rfl
end
end Kin
namespace Kin
open PySem PySem.Spec PyProof.Rows L2 RZ
abbrev Odd (d : PyData) : Prop := Fi 2 40 d
def oddB (d : PyData) : Bool := fine d && (decide (d.depth ≤ 2) && decide (d.bulk ≤ 40))
section
variable {K : PySem.W.Frag} {E : En} {H : Hp} {σ : L2.St} {te ta tb : TE}
theorem gv_odd {d : PyData} (h : Gv K E te σ H (· = d)) (o : oddB d = true) : Gv K E te σ H Odd := h.imp fun e he => by
  rw [he]
  unfold oddB at o
  rw [Bool.and_eq_true, Bool.and_eq_true] at o
  exact ⟨o.1, of_decide_eq_true o.2.1, of_decide_eq_true o.2.2⟩
theorem gv_catA {A B : List PyData → Prop} (ha : Gv K E ta σ H (fun d => ∃ ds, d = .list ds ∧ A ds)) (hb : Gv K E tb σ H (fun d => ∃ ds, d = .list ds ∧ B ds)) (l : ∀ ds es, A ds → B es → ds.length + es.length ≤ 1000) : Gv K E (tOp rCat ta tb) σ H (fun d => ∃ ds es, d = .list (ds ++ es) ∧ A ds ∧ B es) :=
  gv_op (G2 := fun _ d => ∃ ds, d = .list ds ∧ B ds) ha (fun _ _ => hb) fun x y d e H1 Q r hd he g1 g2 q => by
    obtain ⟨ds, rfl, g1⟩ := g1
    obtain ⟨es, rfl, g2⟩ := g2
    cases hd with
    | lst n h t =>
      cases he with
      | lst n2 h2 t2 => exact ⟨_, _, _, _, rfl, rfl, h, h2, by rw [t.len, t2.len]; exact Nat.le_of_lt (small1000 (l ds es g1 g2)), fun p np => q _ _ _ (r.rfl.new np) (Da.newL r.2.2 np (t.app t2)) ⟨ds, es, rfl, g1, g2⟩⟩
end
/-- data near this data -/
def Near (ds es : List PyData) : Prop := (∀ e ∈ es, e ∈ ds ∨ Odd e) ∧ PyData.bulkAll es ≤ PyData.bulkAll ds + 41 ∧ es.length ≤ ds.length + 1
def BB (a b : Nat) (d : PyData) : Prop := ∃ es, (d = .tuple es ∨ d = .list es) ∧ Fi (max a 3) (b + 60) d
theorem Near.bb {a b : Nat} {ds es : List PyData} (h : Near ds es) (f : Fi a b (.tuple ds)) : Fi (max a 3) (b + 60) (.tuple es) := by
  have f1 : fineAll ds = true := f.f
  have f2 : PyData.depthAll ds + 1 ≤ a := f.dep
  have f3 : PyData.bulkAll ds ≤ b := f.blk
  refine ⟨?_, ?_, ?_⟩
  · show fineAll es = true
    rw [fineAll_iff]
    intro e he
    rcases h.1 e he with m | o
    · exact fineAll_iff.mp f1 e m
    · exact o.f
  · show PyData.depthAll es + 1 ≤ max a 3
    have : PyData.depthAll es ≤ max a 3 - 1 := depthAll_le.mpr fun e he => by
      rcases h.1 e he with m | o
      · have := depthAll_le.mp (Nat.le_refl (PyData.depthAll ds)) e m
        omega
      · have := o.dep
        omega
    omega
  · have := h.2.1
    show PyData.bulkAll es ≤ b + 60
    omega
theorem bulk_drop1 (ds : List PyData) (k : Nat) : PyData.bulkAll (ds.drop (k + 1)) ≤ PyData.bulkAll (ds.drop k) := by
  have h := bulkAll_part (ds.drop k) 1
  rw [List.drop_drop] at h
  omega
theorem odd_bulk {e : PyData} (h : Odd e) : PyData.bulkAll [e] ≤ 41 := by
  have := h.blk
  show e.bulk + 1 + 0 ≤ 41
  omega
theorem near_out (ds : List PyData) (k : Nat) : Near ds (ds.take k ++ ds.drop (k + 1)) := by
  refine ⟨fun e he => ?_, ?_, ?_⟩
  · rcases List.mem_append.mp he with m | m
    · exact .inl (List.mem_of_mem_take m)
    · exact .inl (List.mem_of_mem_drop m)
  · rw [bulkAll_app]
    have := bulkAll_part ds k
    have := bulk_drop1 ds k
    omega
  · rw [List.length_append, List.length_take, List.length_drop]
    omega
theorem near_in {ds : List PyData} {e : PyData} (k : Nat) (h : Odd e) : Near ds (ds.take k ++ [e] ++ ds.drop k) := by
  refine ⟨fun x hx => ?_, ?_, ?_⟩
  · rcases List.mem_append.mp hx with m | m
    · rcases List.mem_append.mp m with m | m
      · exact .inl (List.mem_of_mem_take m)
      · rw [List.mem_singleton.mp m]
        exact .inr h
    · exact .inl (List.mem_of_mem_drop m)
  · rw [bulkAll_app, bulkAll_app]
    have := bulkAll_part ds k
    have := odd_bulk h
    omega
  · rw [List.length_append, List.length_append, List.length_take, List.length_drop, List.length_singleton]
    omega
theorem near_set {ds : List PyData} {e : PyData} (k : Nat) (h : Odd e) : Near ds (ds.take k ++ [e] ++ ds.drop (k + 1)) := by
  refine ⟨fun x hx => ?_, ?_, ?_⟩
  · rcases List.mem_append.mp hx with m | m
    · rcases List.mem_append.mp m with m | m
      · exact .inl (List.mem_of_mem_take m)
      · rw [List.mem_singleton.mp m]
        exact .inr h
    · exact .inl (List.mem_of_mem_drop m)
  · rw [bulkAll_app, bulkAll_app]
    have := bulkAll_part ds k
    have := bulk_drop1 ds k
    have := odd_bulk h
    omega
  · rw [List.length_append, List.length_append, List.length_take, List.length_drop, List.length_singleton]
    omega
theorem near_head {ds : List PyData} {e : PyData} (h : Odd e) : Near ds ([e] ++ ds.drop 1) := by
  have := near_set (ds := ds) 0 h
  rwa [List.take_zero, List.nil_append] at this
section
variable {P : Program} {w : World} {K : PySem.W.Frag} {mg : Str → Option Value} {base : Heap}
/-! _law_bent -/
abbrev s_law_bent : Stmt := topS 24
theorem sc_law_bent : FnScope ["pot", "worth", "way", "at", "odd", "words"] ["pot", "worth"] (defScope s_law_bent) := ⟨rfl, rfl, rfl, by decide +kernel, rfl, by decide +kernel, by decide +kernel⟩
def sp_bdraw (K : PySem.W.Frag) : Sp := fun vs H Q _ => ∃ (p c : Addr) (ns : List Int) (rs : List Addr) (x : V) (ds : List PyData) (a b : Nat), vs = [.ref p, x] ∧ Da K (p :: rs) H x (.tuple ds) ∧ 0 < ds.length ∧ ds.length ≤ 500 ∧ Fi a b (.tuple ds) ∧ (EnP p c ns rs).I H ∧ ∀ x d H', Go p c ns H H' → Da K (p :: rs) H' x d → BB a b d → Q x H'
theorem ok_lbent (F : Def K mg "_law_bent" ["pot", "worth"] s_law_bent) (M : MB mg) (c_law_pick : Cl P w K mg base 2 "_law_pick" sp_law_pick) : Cl P w K mg base 3 "_law_bent" (sp_bdraw K) := by
  refine F.cl sc_law_bent (fun vs H Q E h => ?_) (fun f cdv A outer s H vs Q E hr h => ?_)
  · obtain ⟨p, c, ns, rs, x, ds, a, b, rfl, _⟩ := h
    rfl
  obtain ⟨p, c, ns, rs, x, ds, a, b, rfl, hx, hl0, hl, hF, hP, q⟩ := h
  have nd := sc_law_bent.nd
  have m_len := M.m_len
  have m_list := M.m_list
  refine ⟨_, (pss_cons (ps_set (i := 2) nd rfl (Or.inl rfl) (pe_cl c_law_pick hr (by decide) (by rfl) (pa_cons (pv 0) (pa_cons pe_int pa_nil))))
    (pss_cons (ps_set (i := 3) nd rfl (Or.inl rfl) (pe_cl c_law_pick hr (by decide) (by rfl) (pa_cons (pv 0) (pa_cons (pe_callB (call_lenK K) (by rfl) m_len PySem.boot_len (pa_cons (pv 1) pa_nil)) pa_nil))))
    (pss_cons (ps_set (i := 4) nd rfl (Or.inl rfl) (pe_lst (pa_cons pe_bl (pa_cons pe_bl (pa_cons pe_int (pa_cons pe_int (pa_cons (pe_un un_neg pe_int) (pa_cons pe_non (pa_cons pe_str (pa_cons pe_str (pa_cons pe_str (pa_cons pe_str (pa_cons pe_str (pa_cons pe_str (pa_cons pe_str (pa_cons (pe_op op_repS pe_str pe_int) (pa_cons (pe_op op_add (pe_op op_pow pe_int pe_int) pe_int) pa_nil)))))))))))))))))
    (pss_cons (ps_set (i := 4) nd rfl (Or.inl rfl) (pe_op op_cat (pv 4) (pe_lst (pa_cons (pe_op op_sub (pe_op op_sub pe_int (pe_op op_pow pe_int pe_int)) pe_int) (pa_cons (pe_op op_pow pe_int pe_int) (pa_cons (pe_tup pa_nil) (pa_cons (pe_tup (pa_cons pe_str pa_nil)) (pa_cons (pe_lst pa_nil) (pa_cons (pe_lst (pa_cons pe_str pa_nil)) (pa_cons (pe_tup (pa_cons pe_str (pa_cons pe_str pa_nil))) (pa_cons (pe_tup (pa_cons pe_str (pa_cons pe_str (pa_cons pe_str (pa_cons (pe_tup (pa_cons pe_str pa_nil)) pa_nil))))) pa_nil)))))))))))
    (pss_cons (ps_if (pt_cmpR op_eq (pv 2) pe_int (by rfl)) (pss_one (ps_ret (pe_op op_catA (pe_slice sl_tupA (pv 1) po_none (po_some (pv 3))) (pe_slice sl_tupA (pv 1) (po_some (pe_op op_add (pv 3) pe_int)) po_none)))) pss_nil)
    (pss_cons (ps_if (pt_cmpR op_eq (pv 2) pe_int (by rfl)) (pss_one (ps_ret (pe_op op_catA (pe_op op_catA (pe_slice sl_tupA (pv 1) po_none (po_some (pv 3))) (pe_tup (pa_cons (pe_ix (ix_listK K) (pv 4) (pe_cl c_law_pick hr (by decide) (by rfl) (pa_cons (pv 0) (pa_cons pe_int pa_nil))) (fun _ _ => rfl)) pa_nil))) (pe_slice sl_tupA (pv 1) (po_some (pv 3)) po_none)))) pss_nil)
    (pss_cons (ps_if (pt_cmpR op_eq (pv 2) pe_int (by rfl)) (pss_one (ps_ret (pe_callTy (call_listK K) (by rfl) m_list (by decide +kernel) (pa_cons (pv 1) pa_nil)))) pss_nil)
    (pss_cons (ps_if (pt_cmpR op_eq (pv 2) pe_int (by rfl)) (pss_cons (ps_set (i := 5) nd rfl (Or.inl rfl) (pe_lst (pa_cons pe_str (pa_cons pe_str (pa_cons pe_str (pa_cons pe_str (pa_cons pe_str (pa_cons pe_str (pa_cons pe_str (pa_cons pe_str (pa_cons pe_str (pa_cons pe_str (pa_cons pe_str (pa_cons pe_str pa_nil))))))))))))))
    (pss_one (ps_ret (pe_op op_catA (pe_tup (pa_cons (pe_ix (ix_listK K) (pv 5) (pe_cl c_law_pick hr (by decide) (by rfl) (pa_cons (pv 0) (pa_cons pe_int pa_nil))) (fun _ _ => rfl)) pa_nil)) (pe_slice sl_tupA (pv 1) (po_some pe_int) po_none))))) pss_nil)
    (pss_one (ps_ret (pe_op op_catA (pe_op op_catA (pe_slice sl_tupA (pv 1) po_none (po_some (pv 3))) (pe_tup (pa_cons (pe_ix (ix_listK K) (pv 4) (pe_cl c_law_pick hr (by decide) (by rfl) (pa_cons (pv 0) (pa_cons pe_int pa_nil))) (fun _ _ => rfl)) pa_nil))) (pe_slice sl_tupA (pv 1) (po_some (pe_op op_add (pv 3) pe_int)) po_none)))))))))))), ?_⟩
  have out : ∀ {x d H'}, (EnP p c ns rs).R H H' → Da K (EnP p c ns rs).av H' x d → (∃ es, d = .tuple es ∧ Near ds es) → Q x H' := fun r hd ⟨es, e, g⟩ => q _ _ _ (R.go r) hd ⟨es, .inl e, e ▸ g.bb hF⟩
  have i0 : (EnP p c ns rs).I H := hP
  refine gs_asg (K := K) (E := EnP p c ns rs) (gv_pick (m := 6) gv_int (mny (by decide) (by decide))) i0 fun v1 d1 H1 R1 hd1 ⟨way, e1, hway⟩ => ?_
  subst e1
  cases hd1
  refine gs_asg (K := K) (E := EnP p c ns rs) (gv_pick (gv_len ((gv_var (hx.r R1)).imp fun d e => .inr e)) (mny (by omega) (by omega))) R1.2.2 fun v2 d2 H2 R2 hd2 ⟨at', e2, hat⟩ => ?_
  subst e2
  cases hd2
  have R12 := R1.tr R2
  refine gs_asg (K := K) (E := EnP p c ns rs) (G := fun d => ∃ l, d = .list l ∧ l.length = 15 ∧ ∀ e ∈ l, Odd e) (gv_lst (ga_all (gv_odd gv_bl (by decide +kernel)) (ga_all (gv_odd gv_bl (by decide +kernel)) (ga_all (gv_odd gv_int (by decide +kernel)) (ga_all (gv_odd gv_int (by decide +kernel)) (ga_all (gv_odd (gi_neg gv_int) (by decide +kernel)) (ga_all (gv_odd gv_non (by decide +kernel)) (ga_all (gv_odd gv_str (by decide +kernel)) (ga_all (gv_odd gv_str (by decide +kernel)) (ga_all (gv_odd gv_str (by decide +kernel)) (ga_all (gv_odd gv_str (by decide +kernel)) (ga_all (gv_odd gv_str (by decide +kernel)) (ga_all (gv_odd gv_str (by decide +kernel)) (ga_all (gv_odd gv_str (by decide +kernel)) (ga_all (gv_odd (gv_repS gv_str gv_int ⟨by decide, by decide, by decide, by decide⟩) (by decide +kernel)) (ga_all (gv_odd (gi_op0 (gi_op gv_int gv_int ⟨by decide, by decide, by decide⟩) gv_int) (by decide +kernel)) ga_all0))))))))))))))) fun l g => by rw [g.1]; decide) R2.2.2 fun v3 d3 H3 R3 hd3 ⟨l1, e3, hl1, ho1⟩ => ?_
  subst e3
  have R13 := R12.tr R3
  refine gs_asg (K := K) (E := EnP p c ns rs) (G := fun d => ∃ ds es, d = .list (ds ++ es) ∧ (ds.length = 15 ∧ ∀ e ∈ ds, Odd e) ∧ (es.length = 8 ∧ ∀ e ∈ es, Odd e)) (gv_catA ((gv_var hd3).imp fun d e => ⟨l1, e, hl1, ho1⟩) (gv_lst (ga_all (gv_odd (gi_op0 (gi_op0 gv_int (gi_op gv_int gv_int ⟨by decide, by decide, by decide⟩)) gv_int) (by decide +kernel)) (ga_all (gv_odd (gi_op gv_int gv_int ⟨by decide, by decide, by decide⟩) (by decide +kernel)) (ga_all (gv_odd (gv_tup' ga_nil) (by decide +kernel)) (ga_all (gv_odd (gv_tup' (ga_cons' gv_str ga_nil)) (by decide +kernel)) (ga_all (gv_odd (gv_lst' ga_nil) (by decide +kernel)) (ga_all (gv_odd (gv_lst' (ga_cons' gv_str ga_nil)) (by decide +kernel)) (ga_all (gv_odd (gv_tup' (ga_cons' gv_str (ga_cons' gv_str ga_nil))) (by decide +kernel)) (ga_all (gv_odd (gv_tup' (ga_cons' gv_str (ga_cons' gv_str (ga_cons' gv_str (ga_cons' (gv_tup' (ga_cons' gv_str ga_nil)) ga_nil))))) (by decide +kernel)) ga_all0)))))))) fun l g => by rw [g.1]; decide) fun ds es g1 g2 => by rw [g1.1, g2.1]; decide) R3.2.2 fun v4 d4 H4 R4 hd4 ⟨l2, l3, e4, ⟨hl2, ho2⟩, hl3, ho3⟩ => ?_
  subst e4
  have R14 := R13.tr R4
  have hx4 := hx.r R14
  have i4 : (EnP p c ns rs).I H4 := R4.2.2
  have odds : ∀ e ∈ l2 ++ l3, Odd e := fun e he => (List.mem_append.mp he).elim (ho2 e) (ho3 e)
  have nodd : (l2 ++ l3).length = 23 := by rw [List.length_append, hl2, hl3]
  have σd : ∀ {te : TE} {σ : L2.St}, Gv K (EnP p c ns rs) te σ H4 Odd → Gv K (EnP p c ns rs) (tTup (tCons te tNil)) σ H4 (fun d => ∃ e, d = .tuple [e] ∧ Odd e) := fun {te σ} h =>
    (gv_tup (Gs := fun l => ∃ e, l = [e] ∧ Odd e) (gcons (Gs := (· = [])) h ga_nil fun d l g e => ⟨d, by rw [e], g⟩) fun l ⟨e, e1, _⟩ => by rw [e1]; show 1 ≤ 1000; decide).imp fun d ⟨l, e1, e, e2, e3⟩ => ⟨e, by rw [e1, e2], e3⟩
  have at1 : ((at' : Nat) : Int) + 1 = ((at' + 1 : Nat) : Int) := rfl
  refine ⟨_, rfl, rfl, _, rfl, ite2 (fun _ => ?_) (fun _ => ?_)⟩
  · refine gs_ret (K := K) (E := EnP p c ns rs) (G := fun d => ∃ es, d = .tuple es ∧ Near ds es) (gv_catT (G1 := (· = .tuple (cutD ds none (some (at' : Int))))) (G2 := fun _ => (· = .tuple (cutD ds (some ((at' : Int) + 1)) none))) (gv_slT (gv_var hx4) go_none (go_some (gv_var (.int _)))) (fun _ _ => gv_slT (gv_var hx4) (go_some (gi_op0 (gv_var (.int _)) gv_int)) go_none) fun d e g1 g2 => ?_) i4 fun x d H5 r hd g => out (R14.tr r) hd g
    rw [at1, cutD_from] at g2
    rw [cutD_to] at g1
    exact ⟨_, _, g1, g2, by rw [List.length_take, List.length_drop]; omega, _, rfl, near_out ds at'⟩
  have one : ∀ {σ : L2.St}, σ[0]? = some (some (.ref p)) → σ[4]? = some (some v4) → Gv K (EnP p c ns rs) (tOp (rIxL K) (tVar 4) (tCall sp_law_pick [] E0 (tCons (tVar 0) (tCons (tC (.int ((23 : Nat) : Int))) tNil)))) σ H4 Odd := fun {σ} h0 h4 =>
    gv_one (Gl := (· = l2 ++ l3)) ((gv_var hd4 h4).imp fun d e => ⟨_, e, rfl⟩) (by decide) (fun l e => by rw [e]; exact nodd) (fun l e d hm => odds d (e ▸ hm)) h0
  dsimp only [tNext]
  refine ⟨_, rfl, rfl, _, rfl, ite2 (fun _ => ?_) (fun _ => ?_)⟩
  · refine gs_ret (K := K) (E := EnP p c ns rs) (G := fun d => ∃ es, d = .tuple es ∧ Near ds es) (gv_catT (G1 := fun d => ∃ e, d = .tuple (ds.take at' ++ [e]) ∧ Odd e) (G2 := fun _ => (· = .tuple (cutD ds (some (at' : Int)) none))) (gv_catT (G1 := (· = .tuple (cutD ds none (some (at' : Int))))) (G2 := fun _ d => ∃ e, d = .tuple [e] ∧ Odd e) (gv_slT (gv_var hx4) go_none (go_some (gv_var (.int _)))) (fun _ _ => σd (one rfl rfl)) fun d e g1 ⟨e1, g2, o⟩ => ?_) (fun _ _ => gv_slT (gv_var hx4) (go_some (gv_var (.int _))) go_none) fun d e ⟨e1, g1, o⟩ g2 => ?_) i4 fun x d H5 r hd g => out (R14.tr r) hd g
    · rw [cutD_to] at g1
      exact ⟨_, _, g1, g2, by rw [List.length_take, List.length_singleton]; omega, e1, rfl, o⟩
    · rw [cutD_from] at g2
      exact ⟨_, _, g1, g2, by rw [List.length_append, List.length_take, List.length_drop, List.length_singleton]; omega, _, rfl, near_in at' o⟩
  dsimp only [tNext]
  refine ⟨_, rfl, rfl, _, rfl, ite2 (fun _ => ?_) (fun _ => ?_)⟩
  · refine gs_ret (K := K) (E := EnP p c ns rs) (G := (· = .list ds)) (gv_list (gv_var hx4) fun d e => ⟨ds, .inr e, rfl⟩) i4 fun x d H5 r hd g => ?_
    subst g
    have nn : Near ds ds := ⟨fun e he => .inl he, by omega, by omega⟩
    have f := nn.bb hF
    exact q _ _ _ (R.go (R14.tr r)) hd ⟨ds, .inr rfl, f.f, f.dep, f.blk⟩
  dsimp only [tNext]
  refine ⟨_, rfl, rfl, _, rfl, ite2 (fun _ => ?_) (fun _ => ?_)⟩
  · refine gs_asg (K := K) (E := EnP p c ns rs) (G := fun d => ∃ l, d = .list l ∧ l.length = 12 ∧ ∀ e ∈ l, Odd e) (gv_lst (ga_all (gv_odd gv_str (by decide +kernel)) (ga_all (gv_odd gv_str (by decide +kernel)) (ga_all (gv_odd gv_str (by decide +kernel)) (ga_all (gv_odd gv_str (by decide +kernel)) (ga_all (gv_odd gv_str (by decide +kernel)) (ga_all (gv_odd gv_str (by decide +kernel)) (ga_all (gv_odd gv_str (by decide +kernel)) (ga_all (gv_odd gv_str (by decide +kernel)) (ga_all (gv_odd gv_str (by decide +kernel)) (ga_all (gv_odd gv_str (by decide +kernel)) (ga_all (gv_odd gv_str (by decide +kernel)) (ga_all (gv_odd gv_str (by decide +kernel)) ga_all0)))))))))))) fun l g => by rw [g.1]; decide) i4 fun v5 d5 H5 R5 hd5 ⟨l5, e5, hl5, ho5⟩ => ?_
    subst e5
    have R15 := R14.tr R5
    have hx5 := hx.r R15
    have σd5 : ∀ {te : TE} {σ : L2.St}, Gv K (EnP p c ns rs) te σ H5 Odd → Gv K (EnP p c ns rs) (tTup (tCons te tNil)) σ H5 (fun d => ∃ e, d = .tuple [e] ∧ Odd e) := fun {te σ} h =>
      (gv_tup (Gs := fun l => ∃ e, l = [e] ∧ Odd e) (gcons (Gs := (· = [])) h ga_nil fun d l g e => ⟨d, by rw [e], g⟩) fun l ⟨e, e1, _⟩ => by rw [e1]; show 1 ≤ 1000; decide).imp fun d ⟨l, e1, e, e2, e3⟩ => ⟨e, by rw [e1, e2], e3⟩
    have one5 : ∀ {σ : L2.St}, σ[0]? = some (some (.ref p)) → σ[5]? = some (some v5) → Gv K (EnP p c ns rs) (tOp (rIxL K) (tVar 5) (tCall sp_law_pick [] E0 (tCons (tVar 0) (tCons (tC (.int ((12 : Nat) : Int))) tNil)))) σ H5 Odd := fun {σ} h0 h4 =>
      gv_one (Gl := (· = l5)) ((gv_var hd5 h4).imp fun d e => ⟨_, e, rfl⟩) (by decide) (fun l e => by rw [e]; exact hl5) (fun l e d hm => ho5 d (e ▸ hm)) h0
    refine gs_ret (K := K) (E := EnP p c ns rs) (G := fun d => ∃ es, d = .tuple es ∧ Near ds es) (gv_catT (G1 := fun d => ∃ e, d = .tuple [e] ∧ Odd e) (G2 := fun _ => (· = .tuple (cutD ds (some ((1 : Nat) : Int)) none))) (σd5 (one5 rfl rfl)) (fun _ _ => gv_slT (gv_var hx5) (go_some gv_int) go_none) fun d e ⟨e1, g1, o⟩ g2 => ?_) R5.2.2 fun x d H6 r hd g => out (R15.tr r) hd g
    rw [cutD_from] at g2
    exact ⟨_, _, g1, g2, by rw [List.length_drop, List.length_singleton]; omega, _, rfl, near_head o⟩
  dsimp only [tNext]
  refine gs_ret (K := K) (E := EnP p c ns rs) (G := fun d => ∃ es, d = .tuple es ∧ Near ds es) (gv_catT (G1 := fun d => ∃ e, d = .tuple (ds.take at' ++ [e]) ∧ Odd e) (G2 := fun _ => (· = .tuple (cutD ds (some ((at' : Int) + 1)) none))) (gv_catT (G1 := (· = .tuple (cutD ds none (some (at' : Int))))) (G2 := fun _ d => ∃ e, d = .tuple [e] ∧ Odd e) (gv_slT (gv_var hx4) go_none (go_some (gv_var (.int _)))) (fun _ _ => σd (one rfl rfl)) fun d e g1 ⟨e1, g2, o⟩ => ?_) (fun _ _ => gv_slT (gv_var hx4) (go_some (gi_op0 (gv_var (.int _)) gv_int)) go_none) fun d e ⟨e1, g1, o⟩ g2 => ?_) i4 fun x d H5 r hd g => out (R14.tr r) hd g
  · rw [cutD_to] at g1
    exact ⟨_, _, g1, g2, by rw [List.length_take, List.length_singleton]; omega, e1, rfl, o⟩
  · rw [at1, cutD_from] at g2
    exact ⟨_, _, g1, g2, by rw [List.length_append, List.length_take, List.length_drop, List.length_singleton]; omega, _, rfl, near_set at' o⟩
end
end Kin
namespace Kin
open PySem PySem.Spec PyProof.Rows L2 RZ
abbrev Th (d : PyData) : Prop := Fi 8 600 d
section
variable {K : PySem.W.Frag} {p c : Addr} {ns : List Int} {rs : List Addr} {H : Hp} {σ : L2.St}
theorem gv_bent {i j : Nat} {x : V} {ds : List PyData} {a b : Nat} (hx : Da K (p :: rs) H x (.tuple ds)) (h0 : 0 < ds.length) (h5 : ds.length ≤ 500) (f : Fi a b (.tuple ds)) (hi : σ[i]? = some (some (.ref p)) := by rfl) (hj : σ[j]? = some (some x) := by rfl) :
    Gv K (EnP p c ns rs) (tCall (sp_bdraw K) [] E0 (tCons (tVar i) (tCons (tVar j) tNil))) σ H (BB a b) := fun H1 r1 Q q =>
  ⟨_, hi, _, hj, p, c, ns, rs, x, ds, a, b, rfl, hx.r r1, h0, h5, f, r1.2.2, fun x d H2 g hd bb => q x d H2 (g.r r1.2.2.2) hd bb⟩
end
theorem BB.th {a b : Nat} {d : PyData} (h : BB a b d) (ha : a ≤ 8) (hb : b ≤ 500) : Th d := by
  obtain ⟨es, e, f⟩ := h
  have f := f.mono (show max a 3 ≤ 8 by omega) (show b + 60 ≤ 600 by omega)
  rcases e with rfl | rfl
  · exact f
  · exact ⟨f.f, f.dep, f.blk⟩
section
variable {P : Program} {w : World} {K : PySem.W.Frag} {mg : Str → Option Value} {base : Heap}
theorem ok_lworth (F : Def K mg "_law_is_worth" ["thing"] s_law_is_worth) (M : MB mg) (c1 : Cl P w K mg base 1 "_law_is_name" (sp_lname K)) (c2 : Cl P w K mg base 1 "_law_is_plain" (sp_lplain K)) : ∀ n : Nat, Cl P w K mg base (n + 1) "_law_is_worth" (sp_lworth K n)
  | 0 => by
    obtain ⟨f, fd, F1, hm, b⟩ := F.ex
    have no : ∀ vs H Q E, ¬ sp_lworth K 0 vs H Q E := fun vs H Q E h => by
      obtain ⟨x, d, _, _, _, _, _, h, _⟩ := h
      omega
    exact ⟨f, fd, _, ⟨fun vs H Q E h => absurd h (no vs H Q E), fun A outer s H args us vs Q E _ _ _ _ h => absurd h (no vs H Q E)⟩, hm, F1.kp, b⟩
  | n + 1 => ok_lworth_step F M c1 c2 (ok_lworth F M c1 c2 n)
theorem vac {x : Str} {st : Stmt} {ps : List Str} {k : Nat} (F : Def K mg x ps st) : Cl P w K mg base k x (fun _ _ _ _ => False) := by
  obtain ⟨f, fd, F1, hm, b⟩ := F.ex
  exact ⟨f, fd, _, ⟨fun _ _ _ _ h => h.elim, fun _ _ _ _ _ _ _ _ _ _ _ _ _ h => h.elim⟩, hm, F1.kp, b⟩
theorem draw_imp {args : Addr → List Addr → Hp → List V → Prop} {G G' : PyData → Prop} (h : ∀ d, G d → G' d) {vs : List V} {H : Hp} {Q : VK} {E : XK} : sp_draw K args G' vs H Q E → sp_draw K args G vs H Q E := fun ⟨p, c, ns, rs, a, i, q⟩ => ⟨p, c, ns, rs, a, i, fun x d H' g hd gd => q x d H' g hd (h d gd)⟩
/-! law -/
abbrev s_law : Stmt := topS 25
theorem sc_law : FnScope ["script", "pot", "names", "things", "turn", "worth", "bent", "thing", "before"] ["script"] (defScope s_law) := ⟨rfl, rfl, rfl, by decide +kernel, rfl, by decide +kernel, by decide +kernel⟩
def sp_law (K : PySem.W.Frag) : Sp := fun vs H Q _ => ∃ (a : Addr) (ns : List Int), vs = [.ref a] ∧ SqL K H a (ns.map V.int) ∧ ns.length ≤ 63 ∧ ∀ H', Q (.bl true) H'
theorem ok_law {f : Addr} {fd : FuncData} (F : Fun K "law" "law" s_law f fd) (M : MB mg) (m_repr : mg "repr" = none) (c_law_pot : Cl P w K mg base 1 "_law_pot" (sp_law_pot K)) (c_law_names : Cl P w K mg base 4 "_law_names" sp_law_names) (c_law_worth : Cl P w K mg base 6 "_law_worth" (sp_wdraw K true WW)) (c_is_worth : Cl P w K mg base 5 "is_worth" (sp_worth K)) (c_is_plain : Cl P w K mg base 3 "is_plain" (sp_plain K)) (c_law_bent : Cl P w K mg base 3 "_law_bent" (sp_bdraw K)) (c_law_same : Cl P w K mg base 1 "_law_same" (sp_law_same K 1)) (c_law_is_worth : Cl P w K mg base 10 "_law_is_worth" (sp_lworth K 9)) (c_law_is_plain : Cl P w K mg base 1 "_law_is_plain" (sp_lplain K)) :
    FnG P w K mg base 11 f fd ["script"] (sp_law K) := by
  refine fnG_of F sc_law (fun vs H Q E h => ?_) (fun cdv A outer s H vs Q E hg hr h => ?_)
  · obtain ⟨a, ns, rfl, _⟩ := h
    rfl
  obtain ⟨a, ns, rfl, hS, hl, q⟩ := h
  have nd := sc_law.nd
  have m_len := M.m_len
  have m_range := M.m_range
  have m_tuple := M.m_tuple
  have m_isinstance := M.m_isinstance
  have rg : (cxOf CX0 P w K mg base ["script", "pot", "names", "things", "turn", "worth", "bent", "thing", "before"] "law" (defScope s_law) f cdv A outer s H E).nox.A.guards = some [] := hg
  refine ⟨_, (pss_cons (ps_set (i := 1) nd rfl (Or.inl rfl) (pe_cl c_law_pot hr (by decide) (by rfl) (pa_cons (pv 0) pa_nil)))
    (pss_cons (ps_set (i := 2) nd rfl (Or.inl rfl) (pe_cl c_law_names hr (by decide) (by rfl) (pa_cons (pv 1) (pa_cons pe_int pa_nil))))
    (pss_cons (ps_set (i := 3) nd rfl (Or.inl rfl) (pe_lst (pa_cons pe_non (pa_cons (pe_tup pa_nil) (pa_cons pe_int (pa_cons pe_str (pa_cons (pe_lst pa_nil) (pa_cons (pe_tup (pa_cons pe_str (pa_cons pe_non pa_nil))) (pa_cons (pe_tup (pa_cons (pe_tup (pa_cons pe_str pa_nil)) pa_nil)) (pa_cons (pe_tup (pa_cons pe_str pa_nil)) (pa_cons (pe_tup (pa_cons pe_str pa_nil)) (pa_cons (pe_tup (pa_cons pe_str (pa_cons pe_str pa_nil))) (pa_cons pe_bl (pa_cons (pe_tup (pa_cons (pe_tup pa_nil) pa_nil)) pa_nil))))))))))))))
    (pss_cons (ps_for PassesOwn.never rfl (pi_range1 (by rfl) m_range (pa_cons pe_int pa_nil)) (pg_name (i := 4) nd rfl (Or.inl rfl)) (pss_cons (ps_set (i := 5) nd rfl (Or.inl rfl) (pe_cl c_law_worth hr (by decide) (by rfl) (pa_cons (pv 1) (pa_cons (pv 2) (pa_cons pe_bl pa_nil)))))
    (pss_cons (ps_if (pt_cmpR op_isnot_bl (pe_cl c_is_worth hr (by decide) (by rfl) (pa_cons (pv 5) pa_nil)) pe_bl (by rfl)) (pss_one (ps_ret pe_bl)) pss_nil)
    (pss_cons (ps_set (i := 6) nd rfl (Or.inl rfl) (pe_cl c_law_bent hr (by decide) (by rfl) (pa_cons (pv 1) (pa_cons (pv 5) pa_nil))))
    (pss_cons (ps_set (i := 3) nd rfl (Or.inl rfl) (pe_op op_cat (pv 3) (pe_lst (pa_cons (pv 5) (pa_cons (pv 6) (pa_cons (pe_tup (pa_cons pe_str (pa_cons (pe_ix (ix_listK K) (pv 2) pe_int (fun _ _ => rfl)) (pa_cons (pe_ix (ix_listK K) (pv 2) pe_int (fun _ _ => rfl)) (pa_cons (pv 6) pa_nil))))) (pa_cons (pe_cl c_law_bent hr (by decide) (by rfl) (pa_cons (pv 1) (pa_cons (pv 5) pa_nil))) pa_nil)))))))
    (pss_one (ps_if (PW.pt (pw_and (pt_val (pe_callB (call_isiK' K) (by rfl) m_isinstance (by decide +kernel) (pa_cons (pv 6) (pa_cons (pe_bltn (v := .ty "tuple") (u := .type "tuple") (by rfl) m_tuple (by decide +kernel) rfl) pa_nil)))) (pw_and1 (pt_cmpR op_gt (pe_callB (call_lenK K) (by rfl) m_len PySem.boot_len (pa_cons (pv 6) pa_nil)) pe_int (by rfl))))) (pss_one (ps_expr (pe_bmK K PySem.F.plainAttrs_list PySem.F.slot_list_append PySem.F.type_list_append mt_append (pv 3) (pa_cons (pe_cl c_law_bent hr (by decide) (by rfl) (pa_cons (pv 1) (pa_cons (pv 6) pa_nil))) pa_nil)))) pss_nil)))))))
    (pss_cons (ps_for PassesOwn.never rfl (pi_listK K (pv 3)) (pg_name (i := 7) nd rfl (Or.inl rfl)) (pss_cons (ps_set (i := 8) nd rfl (Or.inl rfl) (pe_callB (call_reprD K rg hr.units) (by rfl) m_repr (by decide +kernel) (pa_cons (pv 7) pa_nil)))
    (pss_cons (ps_if (PW.pt (pw_or (pt_not (pt_val (pe_cl c_law_same hr (by decide) (by rfl) (pa_cons (pe_cl c_is_worth hr (by decide) (by rfl) (pa_cons (pv 7) pa_nil)) (pa_cons (pe_cl c_law_is_worth hr (by decide) (by rfl) (pa_cons (pv 7) pa_nil)) pa_nil))))) (pw_or1 (pt_cmpR op_ne (pe_callB (call_reprD K rg hr.units) (by rfl) m_repr (by decide +kernel) (pa_cons (pv 7) pa_nil)) (pv 8) (by rfl))))) (pss_one (ps_ret pe_bl)) pss_nil)
    (pss_one (ps_if (PW.pt (pw_or (pt_not (pt_val (pe_cl c_law_same hr (by decide) (by rfl) (pa_cons (pe_cl c_is_plain hr (by decide) (by rfl) (pa_cons (pv 7) pa_nil)) (pa_cons (pe_cl c_law_is_plain hr (by decide) (by rfl) (pa_cons (pv 7) pa_nil)) pa_nil))))) (pw_or1 (pt_cmpR op_ne (pe_callB (call_reprD K rg hr.units) (by rfl) m_repr (by decide +kernel) (pa_cons (pv 7) pa_nil)) (pv 8) (by rfl))))) (pss_one (ps_ret pe_bl)) pss_nil)))))
    (pss_one (ps_ret pe_bl))))))), ?_⟩
  refine ⟨_, rfl, a, ns, rfl, hS, hl, fun p c ms H1 s1 np nc hpot => ?_⟩
  refine ⟨_, rfl, p, c, ms, 6, rfl, hpot, by decide, fun l xs H2 G nl hl2 h6 nd2 hnm => ?_⟩
  have nlp : l ∉ [p] := fun m => hpot.nep nl (List.mem_singleton.mp m)
  have N2 : NamesAt K [p] H2 (.ref l) xs := ⟨.lst nlp hl2 (da_strs xs), by omega, by omega, hnm⟩
  have i2 : (EnP p c ms []).I H2 := ⟨G.pot, fun _ h => nomatch h⟩
  refine gs_asg (K := K) (E := EnP p c ms []) (G := fun d => ∃ ds, d = .list ds ∧ ds.length = 12 ∧ ∀ e ∈ ds, Odd e) (gv_lst (ga_all (gv_odd gv_non (by decide +kernel)) (ga_all (gv_odd (gv_tup' ga_nil) (by decide +kernel)) (ga_all (gv_odd gv_int (by decide +kernel)) (ga_all (gv_odd gv_str (by decide +kernel)) (ga_all (gv_odd (gv_lst' ga_nil) (by decide +kernel)) (ga_all (gv_odd (gv_tup' (ga_cons' gv_str (ga_cons' gv_non ga_nil))) (by decide +kernel)) (ga_all (gv_odd (gv_tup' (ga_cons' (gv_tup' (ga_cons' gv_str ga_nil)) ga_nil)) (by decide +kernel)) (ga_all (gv_odd (gv_tup' (ga_cons' gv_str ga_nil)) (by decide +kernel)) (ga_all (gv_odd (gv_tup' (ga_cons' gv_str ga_nil)) (by decide +kernel)) (ga_all (gv_odd (gv_tup' (ga_cons' gv_str (ga_cons' gv_str ga_nil))) (by decide +kernel)) (ga_all (gv_odd gv_bl (by decide +kernel)) (ga_all (gv_odd (gv_tup' (ga_cons' (gv_tup' ga_nil) ga_nil)) (by decide +kernel)) ga_all0)))))))))))) fun l g => by rw [g.1]; decide) i2 fun v3 d3 H3 R3 hd3 ⟨l3, e3, hl3, ho3⟩ => ?_
  subst e3
  refine ⟨10, rfl, by decide, by decide, for_range (lo := 0) (n := (10 : Int).toNat) (fun i σ H' => ∃ (x3 : V) (y4 y5 y6 : Option V) (ds : List PyData), σ = [some (.ref a), some (.ref p), some (.ref l), some x3, y4, y5, y6, none, none] ∧ (EnP p c ms []).I H' ∧ Da K [p] H' x3 (.list ds) ∧ (∀ e ∈ ds, Th e) ∧ ds.length ≤ 12 + 5 * i ∧ NamesAt K [p] H' (.ref l) xs) ?_ ?_ ?_⟩
  · exact ⟨v3, none, none, none, l3, rfl, R3.2.2, hd3, fun e he => (ho3 e he).mono (by decide) (by decide), by omega, N2.1.r R3, N2.2⟩
  · rintro i σ H' hi ⟨x3, y4, y5, y6, ds, rfl, i', hx3, hth, hlen, N⟩
    refine ⟨_, rfl, _, rfl, p, c, ms, [], ⟨.ref l, xs, rfl, N⟩, i', fun x5 d5 H5 g5 hd5 ww => ?_⟩
    have R5 := g5.r (rs := []) i'.2
    have sh5 := ww.2.shaped (by decide)
    refine ⟨_, rfl, x5, d5, rfl, hd5.dp, sh5, fine_long ww.2.f, fun H6 s6 => ?_⟩
    refine ⟨_, _, rfl, rfl, _, rfl, no (by rw [ww.1]; decide) ?_⟩
    have R6 : (EnP p c ms []).R H' H6 := R5.same s6
    obtain ⟨z5, t5, e5, _⟩ := worth_form ww.1
    subst e5
    have hd6 := hd5.r (En.same (E := EnP p c ms []) R5.2.2 s6)
    have n5 : (PyData.str z5 :: t5).length ≤ 500 := by
      have h1 := len_bulk (PyData.str z5 :: t5)
      have h2 : PyData.bulkAll (PyData.str z5 :: t5) ≤ 90 := ww.2.blk
      omega
    dsimp only [tNext]
    refine gs_asg (K := K) (E := EnP p c ms []) (gv_bent hd6 (Nat.succ_pos _) n5 ww.2) R6.2.2 fun x6 d6 H7 R7 hd7 bb => ?_
    have R07 := R6.tr R7
    have hx5 := hd6.r R7
    have N7 : NamesAt K [p] H7 (.ref l) xs := ⟨N.1.r R07, N.2⟩
    have th6 := bb.th (by decide) (by decide)
    have name : ∀ {k : Nat} {σ : L2.St}, k < 6 → σ[2]? = some (some (.ref l)) → Gv K (EnP p c ms []) (tOp (rIxL K) (tVar 2) (tC (.int (k : Int)))) σ H7 (fun d => ∃ z, d = .str z ∧ IsName z) := fun {k σ} hk hσ =>
      gv_ixL (gv_var N7.1 hσ) (fun _ _ => gv_int) fun d e g1 g2 => ⟨xs.map PyData.str, k, .str (xs[k]'(by omega)), g1, g2, by rw [List.getElem?_map, List.getElem?_eq_getElem (by omega)]; rfl, _, rfl, hnm _ (List.getElem_mem _)⟩
    obtain ⟨es6, e6, f6⟩ := bb
    have f6 : ∀ d, d = d6 → Fi 3 150 d := fun d e => by
      rw [e]
      rcases e6 with rfl | rfl
      · exact f6
      · exact ⟨f6.f, f6.dep, f6.blk⟩
    have hx3' := hx3.r R07
    refine gs_asgN (K := K) (E := EnP p c ms []) (G := fun l => ∃ ds' es', l = ds' ++ es' ∧ ds' = ds ∧ (es'.length = 4 ∧ ∀ e ∈ es', Th e)) (gn_cat (A := fun l => l = ds) ((gv_var hx3').imp fun d e => ⟨ds, e, rfl⟩) (gv_lst (ga_all ((gv_var hx5).imp fun d e => by rw [e]; exact ww.2.mono (by decide) (by decide)) (ga_all ((gv_var hd7).imp fun d e => (f6 d e).mono (by decide) (by decide)) (ga_all ?_ (ga_all ((gv_bent hx5 (Nat.succ_pos _) n5 ww.2).imp fun d b => b.th (by decide) (by decide)) ga_all0)))) fun l g => by rw [g.1]; decide) fun l1 l2 e1 e2 => by rw [e1, e2.1]; omega) R07.2.2 fun t8 vs8 ds8 H8 R8 nt8 hall8 ⟨ds', es8, e8, eds, hl8, hth8⟩ => ?_
    · refine (gv_tup (Gs := fun l => ∃ z1 z2, l = [.str "bound", .str z1, .str z2, d6] ∧ IsName z1 ∧ IsName z2) (gcons (G := (· = .str "bound")) (Gs := fun l => ∃ z1 z2, l = [.str z1, .str z2, d6] ∧ IsName z1 ∧ IsName z2) gv_str (gcons (G := fun d => ∃ z, d = .str z ∧ IsName z) (Gs := fun l => ∃ z2, l = [.str z2, d6] ∧ IsName z2) (name (k := 0) (by decide) rfl) (gcons (G := fun d => ∃ z, d = .str z ∧ IsName z) (Gs := (· = [d6])) (name (k := 1) (by decide) rfl) (ga_cons' (gv_var hd7) ga_nil) fun d l ⟨z, e1, h1⟩ e2 => ⟨z, by rw [e1, e2], h1⟩) fun d l ⟨z, e1, h1⟩ ⟨z2, e2, h2⟩ => ⟨z, z2, by rw [e1, e2], h1, h2⟩) fun d l e1 ⟨z, z2, e2, h1, h2⟩ => ⟨z, z2, by rw [e1, e2], h1, h2⟩) fun l ⟨z1, z2, e1, _⟩ => by rw [e1]; show 4 ≤ 1000; decide).imp fun d ⟨l, e1, z1, z2, e2, h1, h2⟩ => ?_
      rw [e1, e2]
      exact (fi4 (a := 3) (by decide +kernel) (h1.fi.mono (by decide) (Nat.le_refl _)) (h2.fi.mono (by decide) (Nat.le_refl _)) (f6 d6 rfl)).mono (by decide) (by decide)
    subst e8
    subst eds
    have R08 := R07.tr R8
    have ht8 : t8 ≠ p := R8.2.2.1.nep nt8
    have off8 : ∀ {x d}, Da K [p] H8 x d → Da K [p, t8] (upd H8 t8 (.lst vs8)) x d := fun {x d} h => (h.off nt8).put (by simp)
    have all8 : DaAll K [p, t8] (upd H8 t8 (.lst vs8)) vs8 (ds' ++ es8) := (hall8.off nt8).put (by simp)
    have i8 : (EnP p c ms [t8]).I (upd H8 t8 (.lst vs8)) := ⟨R8.2.2.1.same (same_new nt8), fun b hb => by rw [List.mem_singleton.mp hb, upd_same]; exact fun e => nomatch e⟩
    have at8 : upd H8 t8 (.lst vs8) t8 = some (.lst vs8) := upd_same
    have N8 : Da K [p, t8] (upd H8 t8 (.lst vs8)) (.ref l) (.list (xs.map PyData.str)) := off8 (N.1.r R08)
    have x8 := off8 (hd7.r R8)
    generalize upd H8 t8 (.lst vs8) = H9 at all8 i8 at8 N8 x8
    have m8 : t8 ∈ [p, t8] := by simp
    have less1 : ∀ b ∈ [p], b ∈ [p, t8] := fun b h => by rw [List.mem_singleton.mp h]; exact List.mem_cons_self
    have notp : t8 ∉ [p] := fun m => ht8 (List.mem_singleton.mp m)
    have hth9 : ∀ e ∈ ds' ++ es8, Th e := fun e he => (List.mem_append.mp he).elim (hth e) (hth8 e)
    have stay : ∀ {y5 y6 : Option V}, ∃ (x3 : V) (y4 y5' y6' : Option V) (ds : List PyData), [some (.ref a), some (.ref p), some (.ref l), some (.ref t8), some (.int ((0 : Int) + (i : Nat))), y5, y6, none, none] = [some (.ref a), some (.ref p), some (.ref l), some x3, y4, y5', y6', none, none] ∧ (EnP p c ms []).I H9 ∧ Da K [p] H9 x3 (.list ds) ∧ (∀ e ∈ ds, Th e) ∧ ds.length ≤ 12 + 5 * (i + 1) ∧ NamesAt K [p] H9 (.ref l) xs := fun {y5 y6} =>
      ⟨_, _, _, _, ds' ++ es8, rfl, ⟨i8.1, fun _ h => nomatch h⟩, .lst notp at8 (all8.less less1), hth9, by rw [List.length_append, hl8]; omega, N8.less less1, N.2⟩
    refine ⟨_, rfl, _, _, _, _, tupB d6, rfl, .ty _, dp_ty x8.dp, kit_ty (kit_tup d6), ⟨_, rfl, ?_⟩⟩
    rcases e6 with rfl | rfl
    rotate_left
    · exact no (by show ¬ false = true; decide) (no (by decide) stay)
    refine yes rfl ?_
    cases x8 with
    | tup n6 h6' t6 =>
      rename_i a6 v6
      refine ⟨_, rfl, a6, v6, rfl, .inr (SqT.of h6'), _, _, rfl, rfl, _, rfl, ite2 (fun c6 => ?_) (fun _ => stay)⟩
      have pos6 : 0 < es6.length := by
        have := of_decide_eq_true c6
        rw [t6.len] at this
        omega
      have n6' : es6.length ≤ 500 := by
        have h1 := len_bulk es6
        have h2 : PyData.bulkAll es6 ≤ 150 := (f6 _ rfl).blk
        omega
      refine ⟨_, rfl, .inl ⟨rfl, _, SqL.of at8⟩, ?_⟩
      refine ⟨_, rfl, _, rfl, p, c, ms, [t8], .ref a6, es6, 3, 150, rfl, .tup n6 h6' t6, pos6, n6', f6 _ rfl, i8, fun y10 d10 H10 g10 hd10 bb10 => ?_⟩
      have R10 := g10.r i8.2
      have at10 : H10 t8 = some (.lst vs8) := R10.get notp at8
      refine ⟨t8, vs8, _, rfl, rfl, at10, ?_, ?_⟩
      · rw [all8.len, List.length_append, hl8]
        exact small1000 (by omega)
      refine ⟨_, _, _, _, (ds' ++ es8) ++ [d10], rfl, ⟨R10.2.2.1.mut ht8 ?_, fun _ h => nomatch h⟩, .lst notp upd_same ?_, ?_, ?_, ?_, N.2⟩
      · exact R8.2.2.1.nec nt8
      · exact ((((all8.r R10).app (.cons hd10 .nil)).put m8).less less1)
      · intro e he
        rcases List.mem_append.mp he with h | h
        · exact hth9 e h
        · rw [List.mem_singleton.mp h]
          exact bb10.th (by decide) (by decide)
      · rw [List.length_append, List.length_append, hl8, List.length_singleton]
        omega
      · exact ((N8.r R10).put m8).less less1
  · rintro σ H3' ⟨x3, y4, y5, y6, ds, rfl, i', hx3, hth, hlen, N⟩
    cases hx3 with
    | lst n3 h3 all3 =>
    rename_i l3 vs3
    refine ⟨_, rfl, l3, rfl, ⟨_, SqL.of h3⟩, for_list (xs := vs3) (fun i σ H' => ∃ (y7 y8 : Option V), σ = [some (.ref a), some (.ref p), some (.ref l), some (.ref l3), y4, y5, y6, y7, y8] ∧ Same H3' H') ?_ ?_ ?_ ?_⟩
    · exact ⟨none, none, rfl, Same.refl _⟩
    · rintro i σ H' hi ⟨y7, y8, rfl, sm⟩
      exact SqL.of (sm _ _ h3)
    · rintro i x σ H' hx ⟨y7, y8, rfl, sm⟩
      obtain ⟨d, hd0, hxd⟩ := all3.get hx
      have th := hth d (List.mem_of_getElem? hd0)
      have hd := dp_same sm _ _ hxd.dp
      have sh := th.shaped (by decide)
      have lg := fine_long th.f
      have sw := fine_showable th.f
      have nod : d.hasDict = false := PyData.hasDict_of_canLay d (fine_lay th.f)
      have dp60 : d.depth ≤ 60 := Nat.le_trans th.dep (by decide)
      have sz := th.shown (by decide)
      have dep9 : d.depth < 9 := Nat.lt_of_le_of_lt th.dep (by decide)
      refine ⟨_, rfl, x, d, rfl, hd, sw, nod, dp60, sz, ?_⟩
      refine ⟨_, rfl, x, d, rfl, hd, sh, lg, fun H1 s1 => ?_⟩
      have hd1 := dp_same s1 _ _ hd
      refine ⟨_, rfl, x, d, rfl, hd1, sh, lg, fine_sgn th.f, dep9, fun H2 s2 => ?_⟩
      refine ⟨.bl (worthB d), .bl (worthB d), .bool (worthB d), rfl, .bl _, .bl _, (by show 0 < 1; decide), (by show 0 ≤ 1000; decide), fun H3 s3 => ⟨_, rfl, no (by decide) ?_⟩⟩
      have s13 := (s1.trans s2).trans s3
      have hd3 := dp_same s13 _ _ hd
      refine ⟨_, rfl, x, d, rfl, hd3, sw, nod, dp60, sz, ?_⟩
      refine ⟨_, rfl, rfl, _, rfl, no (by rw [decide_eq_true rfl]; decide) ?_⟩
      dsimp only [tNext]
      refine ⟨_, rfl, x, d, rfl, hd3, sh, lg, fun H4 s4 => ?_⟩
      have hd4 := dp_same s4 _ _ hd3
      refine ⟨_, rfl, x, d, rfl, hd4, sh, lg, fine_sgn th.f, fun H5 s5 => ?_⟩
      refine ⟨.bl (plainB d), .bl (plainB d), .bool (plainB d), rfl, .bl _, .bl _, (by show 0 < 1; decide), (by show 0 ≤ 1000; decide), fun H6 s6 => ⟨_, rfl, no (by decide) ?_⟩⟩
      have s46 := (s4.trans s5).trans s6
      have hd6 := dp_same s46 _ _ hd3
      refine ⟨_, rfl, x, d, rfl, hd6, sw, nod, dp60, sz, ?_⟩
      refine ⟨_, rfl, rfl, _, rfl, no (by rw [decide_eq_true rfl]; decide) ?_⟩
      exact ⟨_, _, rfl, (sm.trans s13).trans s46⟩
    · rintro σ H' ⟨y7, y8, rfl, sm⟩
      exact q _
end
end Kin
namespace Kin
open PySem PySem.Spec PyProof.Rows L2 RZ
/-- the text's defs, the names that are still the built-ins -/
structure Txt (K : PySem.W.Frag) (mg : Str → Option Value) : Prop where
  m : MB mg
  m_repr : mg "repr" = none
  d_is_whole : Def K mg "is_whole" ["thing"] s_is_whole
  d_is_name : Def K mg "is_name" ["thing"] s_is_name
  d_is_plain : Def K mg "is_plain" ["thing"] s_is_plain
  d_is_worth : Def K mg "is_worth" ["thing"] s_is_worth
  d_is_unbound : Def K mg "_is_unbound" ["thing"] s_is_unbound
  d_is_gate : Def K mg "_is_gate" ["thing"] s_is_gate
  d_has_form : Def K mg "_has_form" ["thing", "word", "many"] s_has_form
  d_is_short_text : Def K mg "_is_short_text" ["thing"] s_is_short_text
  d_is_sign : Def K mg "_is_sign" ["sign"] s_is_sign
  d_law_blend : Def K mg "_law_blend" ["cell", "at"] s_law_blend
  d_law_pot : Def K mg "_law_pot" ["script"] s_law_pot
  d_law_pick : Def K mg "_law_pick" ["pot", "many"] s_law_pick
  d_law_same : Def K mg "_law_same" ["found", "due"] s_law_same
  d_law_order : Def K mg "_law_order" ["pot", "many"] s_law_order
  d_law_letters : Def K mg "_law_letters" ["pot", "many"] s_law_letters
  d_law_names : Def K mg "_law_names" ["pot", "many"] s_law_names
  d_law_text : Def K mg "_law_text" ["pot", "most"] s_law_text
  d_law_plain_worth : Def K mg "_law_plain_worth" ["pot", "way"] s_law_plain_worth
  d_law_worth : Def K mg "_law_worth" ["pot", "names", "bound"] s_law_worth
  d_law_is_name : Def K mg "_law_is_name" ["thing"] s_law_is_name
  d_law_is_plain : Def K mg "_law_is_plain" ["thing"] s_law_is_plain
  d_law_is_worth : Def K mg "_law_is_worth" ["thing"] s_law_is_worth
  d_law_bent : Def K mg "_law_bent" ["pot", "worth"] s_law_bent

theorem all_law {P : Program} {w : World} {K : PySem.W.Frag} {mg : Str → Option Value} {base : Heap} {f : Addr} {fd : FuncData} (T : Txt K mg) (F : Fun K "law" "law" s_law f fd) : FnG P w K mg base 11 f fd ["script"] (sp_law K) := by
  have M := T.m
  have a1 := ok_whole (P := P) (w := w) (base := base) T.d_is_whole M
  have a2 := ok_name (P := P) (w := w) (base := base) T.d_is_name M
  have a3 := ok_form (P := P) (w := w) (base := base) T.d_has_form M
  have a4 := ok_sign (P := P) (w := w) (base := base) T.d_is_sign M
  have a5 := ok_short T.d_is_short_text M a4
  have a6 := ok_plain T.d_is_plain M a3 a1 a5
  have a7 := ok_gate T.d_is_gate M a3 a2
  have a8 := ok_unbound T.d_is_unbound a3 a1 a2 a6 a7
  have a9 := ok_worth T.d_is_worth a3 a2 a8
  have b1 := ok_law_blend (P := P) (w := w) (K := K) (base := base) T.d_law_blend
  have b2 := ok_law_pot (P := P) (w := w) (base := base) T.d_law_pot M.m_list M.m_enumerate
  have b3 := ok_law_pick T.d_law_pick M.m_len b1
  have b4 := ok_law_order T.d_law_order M.m_range b3
  have b5 := ok_law_letters T.d_law_letters M.m_range M.m_len b3
  have b6 := ok_law_names T.d_law_names M.m_range b3 b5 b4
  have e1 := ok_law_same (P := P) (w := w) (base := base) T.d_law_same M 1
  have e2 := ok_lname (P := P) (w := w) (base := base) T.d_law_is_name M
  have e3 := ok_lplain (P := P) (w := w) (base := base) T.d_law_is_plain M
  have e4 := ok_lworth T.d_law_is_worth M e2 e3 9
  have d1 := ok_ltext T.d_law_text M.m_range M.m_len b3
  have d2 := ok_lplain_worth T.d_law_plain_worth b3 d1
  have d3 := ok_lwdraw (b := false) (S := fun _ _ _ _ => False) (k := 4) (by decide) T.d_law_worth M b3 d2 (vac T.d_law_worth) (fun h => nomatch h)
  have d4 := ok_lwdraw (b := true) (k := 5) (by decide) T.d_law_worth M b3 d2 d3 (fun _ vs H Q E h => draw_imp (fun d g => g) h)
  have d6 : Cl P w K mg base 6 "_law_worth" (sp_wdraw K true WW) := d4.imp fun vs H Q E h => draw_imp (fun d g => g) h
  have d5 := ok_lbent T.d_law_bent M b3
  exact ok_law F M T.m_repr b2 b6 d6 a9 a6 d5 e1 e4 e3
theorem all_mk {l : PySem.W.OpenLaw} {w : World} {K : PySem.W.Frag} {h : Heap} {mg : Str → Option Value} {fa f1 f2 f3 f4 f5 f6 f7 f8 f9 f10 f11 f12 f13 f14 f15 f16 f17 f18 f19 f20 f21 f22 f23 f24 : Addr} (X : K.In h) (G : h.Ns mainGlobals mg) (hfa : mg "law" = some (.ref fa))
    {od1 an1 od2 an2 od3 an3 od4 an4 od5 an5 od6 an6 od7 an7 od8 an8 od9 an9 od10 an10 od11 an11 od12 an12 od13 an13 od14 an14 od15 an15 od16 an16 od17 an17 od18 an18 od19 an19 od20 an20 od21 an21 od22 an22 od23 an23 od24 an24 : Option Addr} {sl1 sl2 sl3 sl4 sl5 sl6 sl7 sl8 sl9 sl10 sl11 sl12 sl13 sl14 sl15 sl16 sl17 sl18 sl19 sl20 sl21 sl22 sl23 sl24 : Array (Option Value)} {oc1 kV1 dc1 pm1 cd1 ct1 oc2 kV2 dc2 pm2 cd2 ct2 oc3 kV3 dc3 pm3 cd3 ct3 oc4 kV4 dc4 pm4 cd4 ct4 oc5 kV5 dc5 pm5 cd5 ct5 oc6 kV6 dc6 pm6 cd6 ct6 oc7 kV7 dc7 pm7 cd7 ct7 oc8 kV8 dc8 pm8 cd8 ct8 oc9 kV9 dc9 pm9 cd9 ct9 oc10 kV10 dc10 pm10 cd10 ct10 oc11 kV11 dc11 pm11 cd11 ct11 oc12 kV12 dc12 pm12 cd12 ct12 oc13 kV13 dc13 pm13 cd13 ct13 oc14 kV14 dc14 pm14 cd14 ct14 oc15 kV15 dc15 pm15 cd15 ct15 oc16 kV16 dc16 pm16 cd16 ct16 oc17 kV17 dc17 pm17 cd17 ct17 oc18 kV18 dc18 pm18 cd18 ct18 oc19 kV19 dc19 pm19 cd19 ct19 oc20 kV20 dc20 pm20 cd20 ct20 oc21 kV21 dc21 pm21 cd21 ct21 oc22 kV22 dc22 pm22 cd22 ct22 oc23 kV23 dc23 pm23 cd23 ct23 oc24 kV24 dc24 pm24 cd24 ct24 : Value}
    (a1 : PySem.W.nsIn K mainGlobals "is_whole" = some (some (.ref f1))) (l1 : K.lookup f1 = some ⟨oc1, od1, .func (PySem.W.fnOf "is_whole" "is_whole" (defArgs s_is_whole) (defBody s_is_whole) (defScope s_is_whole) .none kV1 dc1 pm1 an1 cd1 ct1), sl1⟩) (c1 : PySem.W.codeIn K cd1 "is_whole" = true) (k1 : PySem.W.keepIn K (.ref f1) = true)
    (a2 : PySem.W.nsIn K mainGlobals "is_name" = some (some (.ref f2))) (l2 : K.lookup f2 = some ⟨oc2, od2, .func (PySem.W.fnOf "is_name" "is_name" (defArgs s_is_name) (defBody s_is_name) (defScope s_is_name) .none kV2 dc2 pm2 an2 cd2 ct2), sl2⟩) (c2 : PySem.W.codeIn K cd2 "is_name" = true) (k2 : PySem.W.keepIn K (.ref f2) = true)
    (a3 : PySem.W.nsIn K mainGlobals "is_plain" = some (some (.ref f3))) (l3 : K.lookup f3 = some ⟨oc3, od3, .func (PySem.W.fnOf "is_plain" "is_plain" (defArgs s_is_plain) (defBody s_is_plain) (defScope s_is_plain) .none kV3 dc3 pm3 an3 cd3 ct3), sl3⟩) (c3 : PySem.W.codeIn K cd3 "is_plain" = true) (k3 : PySem.W.keepIn K (.ref f3) = true)
    (a4 : PySem.W.nsIn K mainGlobals "is_worth" = some (some (.ref f4))) (l4 : K.lookup f4 = some ⟨oc4, od4, .func (PySem.W.fnOf "is_worth" "is_worth" (defArgs s_is_worth) (defBody s_is_worth) (defScope s_is_worth) .none kV4 dc4 pm4 an4 cd4 ct4), sl4⟩) (c4 : PySem.W.codeIn K cd4 "is_worth" = true) (k4 : PySem.W.keepIn K (.ref f4) = true)
    (a5 : PySem.W.nsIn K mainGlobals "_is_unbound" = some (some (.ref f5))) (l5 : K.lookup f5 = some ⟨oc5, od5, .func (PySem.W.fnOf "_is_unbound" "_is_unbound" (defArgs s_is_unbound) (defBody s_is_unbound) (defScope s_is_unbound) .none kV5 dc5 pm5 an5 cd5 ct5), sl5⟩) (c5 : PySem.W.codeIn K cd5 "_is_unbound" = true) (k5 : PySem.W.keepIn K (.ref f5) = true)
    (a6 : PySem.W.nsIn K mainGlobals "_is_gate" = some (some (.ref f6))) (l6 : K.lookup f6 = some ⟨oc6, od6, .func (PySem.W.fnOf "_is_gate" "_is_gate" (defArgs s_is_gate) (defBody s_is_gate) (defScope s_is_gate) .none kV6 dc6 pm6 an6 cd6 ct6), sl6⟩) (c6 : PySem.W.codeIn K cd6 "_is_gate" = true) (k6 : PySem.W.keepIn K (.ref f6) = true)
    (a7 : PySem.W.nsIn K mainGlobals "_has_form" = some (some (.ref f7))) (l7 : K.lookup f7 = some ⟨oc7, od7, .func (PySem.W.fnOf "_has_form" "_has_form" (defArgs s_has_form) (defBody s_has_form) (defScope s_has_form) .none kV7 dc7 pm7 an7 cd7 ct7), sl7⟩) (c7 : PySem.W.codeIn K cd7 "_has_form" = true) (k7 : PySem.W.keepIn K (.ref f7) = true)
    (a8 : PySem.W.nsIn K mainGlobals "_is_short_text" = some (some (.ref f8))) (l8 : K.lookup f8 = some ⟨oc8, od8, .func (PySem.W.fnOf "_is_short_text" "_is_short_text" (defArgs s_is_short_text) (defBody s_is_short_text) (defScope s_is_short_text) .none kV8 dc8 pm8 an8 cd8 ct8), sl8⟩) (c8 : PySem.W.codeIn K cd8 "_is_short_text" = true) (k8 : PySem.W.keepIn K (.ref f8) = true)
    (a9 : PySem.W.nsIn K mainGlobals "_is_sign" = some (some (.ref f9))) (l9 : K.lookup f9 = some ⟨oc9, od9, .func (PySem.W.fnOf "_is_sign" "_is_sign" (defArgs s_is_sign) (defBody s_is_sign) (defScope s_is_sign) .none kV9 dc9 pm9 an9 cd9 ct9), sl9⟩) (c9 : PySem.W.codeIn K cd9 "_is_sign" = true) (k9 : PySem.W.keepIn K (.ref f9) = true)
    (a10 : PySem.W.nsIn K mainGlobals "_law_blend" = some (some (.ref f10))) (l10 : K.lookup f10 = some ⟨oc10, od10, .func (PySem.W.fnOf "_law_blend" "_law_blend" (defArgs s_law_blend) (defBody s_law_blend) (defScope s_law_blend) .none kV10 dc10 pm10 an10 cd10 ct10), sl10⟩) (c10 : PySem.W.codeIn K cd10 "_law_blend" = true) (k10 : PySem.W.keepIn K (.ref f10) = true)
    (a11 : PySem.W.nsIn K mainGlobals "_law_pot" = some (some (.ref f11))) (l11 : K.lookup f11 = some ⟨oc11, od11, .func (PySem.W.fnOf "_law_pot" "_law_pot" (defArgs s_law_pot) (defBody s_law_pot) (defScope s_law_pot) .none kV11 dc11 pm11 an11 cd11 ct11), sl11⟩) (c11 : PySem.W.codeIn K cd11 "_law_pot" = true) (k11 : PySem.W.keepIn K (.ref f11) = true)
    (a12 : PySem.W.nsIn K mainGlobals "_law_pick" = some (some (.ref f12))) (l12 : K.lookup f12 = some ⟨oc12, od12, .func (PySem.W.fnOf "_law_pick" "_law_pick" (defArgs s_law_pick) (defBody s_law_pick) (defScope s_law_pick) .none kV12 dc12 pm12 an12 cd12 ct12), sl12⟩) (c12 : PySem.W.codeIn K cd12 "_law_pick" = true) (k12 : PySem.W.keepIn K (.ref f12) = true)
    (a13 : PySem.W.nsIn K mainGlobals "_law_same" = some (some (.ref f13))) (l13 : K.lookup f13 = some ⟨oc13, od13, .func (PySem.W.fnOf "_law_same" "_law_same" (defArgs s_law_same) (defBody s_law_same) (defScope s_law_same) .none kV13 dc13 pm13 an13 cd13 ct13), sl13⟩) (c13 : PySem.W.codeIn K cd13 "_law_same" = true) (k13 : PySem.W.keepIn K (.ref f13) = true)
    (a14 : PySem.W.nsIn K mainGlobals "_law_order" = some (some (.ref f14))) (l14 : K.lookup f14 = some ⟨oc14, od14, .func (PySem.W.fnOf "_law_order" "_law_order" (defArgs s_law_order) (defBody s_law_order) (defScope s_law_order) .none kV14 dc14 pm14 an14 cd14 ct14), sl14⟩) (c14 : PySem.W.codeIn K cd14 "_law_order" = true) (k14 : PySem.W.keepIn K (.ref f14) = true)
    (a15 : PySem.W.nsIn K mainGlobals "_law_letters" = some (some (.ref f15))) (l15 : K.lookup f15 = some ⟨oc15, od15, .func (PySem.W.fnOf "_law_letters" "_law_letters" (defArgs s_law_letters) (defBody s_law_letters) (defScope s_law_letters) .none kV15 dc15 pm15 an15 cd15 ct15), sl15⟩) (c15 : PySem.W.codeIn K cd15 "_law_letters" = true) (k15 : PySem.W.keepIn K (.ref f15) = true)
    (a16 : PySem.W.nsIn K mainGlobals "_law_names" = some (some (.ref f16))) (l16 : K.lookup f16 = some ⟨oc16, od16, .func (PySem.W.fnOf "_law_names" "_law_names" (defArgs s_law_names) (defBody s_law_names) (defScope s_law_names) .none kV16 dc16 pm16 an16 cd16 ct16), sl16⟩) (c16 : PySem.W.codeIn K cd16 "_law_names" = true) (k16 : PySem.W.keepIn K (.ref f16) = true)
    (a17 : PySem.W.nsIn K mainGlobals "_law_text" = some (some (.ref f17))) (l17 : K.lookup f17 = some ⟨oc17, od17, .func (PySem.W.fnOf "_law_text" "_law_text" (defArgs s_law_text) (defBody s_law_text) (defScope s_law_text) .none kV17 dc17 pm17 an17 cd17 ct17), sl17⟩) (c17 : PySem.W.codeIn K cd17 "_law_text" = true) (k17 : PySem.W.keepIn K (.ref f17) = true)
    (a18 : PySem.W.nsIn K mainGlobals "_law_plain_worth" = some (some (.ref f18))) (l18 : K.lookup f18 = some ⟨oc18, od18, .func (PySem.W.fnOf "_law_plain_worth" "_law_plain_worth" (defArgs s_law_plain_worth) (defBody s_law_plain_worth) (defScope s_law_plain_worth) .none kV18 dc18 pm18 an18 cd18 ct18), sl18⟩) (c18 : PySem.W.codeIn K cd18 "_law_plain_worth" = true) (k18 : PySem.W.keepIn K (.ref f18) = true)
    (a19 : PySem.W.nsIn K mainGlobals "_law_worth" = some (some (.ref f19))) (l19 : K.lookup f19 = some ⟨oc19, od19, .func (PySem.W.fnOf "_law_worth" "_law_worth" (defArgs s_law_worth) (defBody s_law_worth) (defScope s_law_worth) .none kV19 dc19 pm19 an19 cd19 ct19), sl19⟩) (c19 : PySem.W.codeIn K cd19 "_law_worth" = true) (k19 : PySem.W.keepIn K (.ref f19) = true)
    (a20 : PySem.W.nsIn K mainGlobals "_law_is_name" = some (some (.ref f20))) (l20 : K.lookup f20 = some ⟨oc20, od20, .func (PySem.W.fnOf "_law_is_name" "_law_is_name" (defArgs s_law_is_name) (defBody s_law_is_name) (defScope s_law_is_name) .none kV20 dc20 pm20 an20 cd20 ct20), sl20⟩) (c20 : PySem.W.codeIn K cd20 "_law_is_name" = true) (k20 : PySem.W.keepIn K (.ref f20) = true)
    (a21 : PySem.W.nsIn K mainGlobals "_law_is_plain" = some (some (.ref f21))) (l21 : K.lookup f21 = some ⟨oc21, od21, .func (PySem.W.fnOf "_law_is_plain" "_law_is_plain" (defArgs s_law_is_plain) (defBody s_law_is_plain) (defScope s_law_is_plain) .none kV21 dc21 pm21 an21 cd21 ct21), sl21⟩) (c21 : PySem.W.codeIn K cd21 "_law_is_plain" = true) (k21 : PySem.W.keepIn K (.ref f21) = true)
    (a22 : PySem.W.nsIn K mainGlobals "_law_is_worth" = some (some (.ref f22))) (l22 : K.lookup f22 = some ⟨oc22, od22, .func (PySem.W.fnOf "_law_is_worth" "_law_is_worth" (defArgs s_law_is_worth) (defBody s_law_is_worth) (defScope s_law_is_worth) .none kV22 dc22 pm22 an22 cd22 ct22), sl22⟩) (c22 : PySem.W.codeIn K cd22 "_law_is_worth" = true) (k22 : PySem.W.keepIn K (.ref f22) = true)
    (a23 : PySem.W.nsIn K mainGlobals "_law_bent" = some (some (.ref f23))) (l23 : K.lookup f23 = some ⟨oc23, od23, .func (PySem.W.fnOf "_law_bent" "_law_bent" (defArgs s_law_bent) (defBody s_law_bent) (defScope s_law_bent) .none kV23 dc23 pm23 an23 cd23 ct23), sl23⟩) (c23 : PySem.W.codeIn K cd23 "_law_bent" = true) (k23 : PySem.W.keepIn K (.ref f23) = true)
    (a24 : PySem.W.nsIn K mainGlobals "law" = some (some (.ref f24))) (l24 : K.lookup f24 = some ⟨oc24, od24, .func (PySem.W.fnOf "law" "law" (defArgs s_law) (defBody s_law) (defScope s_law) .none kV24 dc24 pm24 an24 cd24 ct24), sl24⟩) (c24 : PySem.W.codeIn K cd24 "law" = true) (k24 : PySem.W.keepIn K (.ref f24) = true)
    (z1 : PySem.W.nsIn K mainGlobals "isinstance" = some none)
    (z2 : PySem.W.nsIn K mainGlobals "bool" = some none)
    (z3 : PySem.W.nsIn K mainGlobals "str" = some none)
    (z4 : PySem.W.nsIn K mainGlobals "int" = some none)
    (z5 : PySem.W.nsIn K mainGlobals "tuple" = some none)
    (z6 : PySem.W.nsIn K mainGlobals "list" = some none)
    (z7 : PySem.W.nsIn K mainGlobals "len" = some none)
    (z8 : PySem.W.nsIn K mainGlobals "all" = some none)
    (z9 : PySem.W.nsIn K mainGlobals "zip" = some none)
    (z10 : PySem.W.nsIn K mainGlobals "range" = some none)
    (z11 : PySem.W.nsIn K mainGlobals "enumerate" = some none)
    (z12 : PySem.W.nsIn K mainGlobals "any" = some none)
    (z13 : PySem.W.nsIn K mainGlobals "repr" = some none)
    :
    ∃ fd : FuncData, (∀ (s : Shared) (v : Value), BindsTo s fd ⟨[v], []⟩ [("script", v)]) ∧ ∀ base : Heap, K.In base → base.Ns mainGlobals mg → FnG l.prog w K mg base 11 fa fd ["script"] (sp_law K) := by
  have e := hfa.symm.trans (PySem.W.mg_of X G a24)
  cases e
  have F1 := fun_mk (st := s_is_whole) l1 c1 k1
  have D1 : Def K mg "is_whole" ["thing"] s_is_whole := ⟨_, _, F1, PySem.W.mg_of X G a1, F1.binds (ps := ["thing"]) fun _ _ _ _ _ _ us hl => match us, hl with | [_], _ => rfl⟩
  have F2 := fun_mk (st := s_is_name) l2 c2 k2
  have D2 : Def K mg "is_name" ["thing"] s_is_name := ⟨_, _, F2, PySem.W.mg_of X G a2, F2.binds (ps := ["thing"]) fun _ _ _ _ _ _ us hl => match us, hl with | [_], _ => rfl⟩
  have F3 := fun_mk (st := s_is_plain) l3 c3 k3
  have D3 : Def K mg "is_plain" ["thing"] s_is_plain := ⟨_, _, F3, PySem.W.mg_of X G a3, F3.binds (ps := ["thing"]) fun _ _ _ _ _ _ us hl => match us, hl with | [_], _ => rfl⟩
  have F4 := fun_mk (st := s_is_worth) l4 c4 k4
  have D4 : Def K mg "is_worth" ["thing"] s_is_worth := ⟨_, _, F4, PySem.W.mg_of X G a4, F4.binds (ps := ["thing"]) fun _ _ _ _ _ _ us hl => match us, hl with | [_], _ => rfl⟩
  have F5 := fun_mk (st := s_is_unbound) l5 c5 k5
  have D5 : Def K mg "_is_unbound" ["thing"] s_is_unbound := ⟨_, _, F5, PySem.W.mg_of X G a5, F5.binds (ps := ["thing"]) fun _ _ _ _ _ _ us hl => match us, hl with | [_], _ => rfl⟩
  have F6 := fun_mk (st := s_is_gate) l6 c6 k6
  have D6 : Def K mg "_is_gate" ["thing"] s_is_gate := ⟨_, _, F6, PySem.W.mg_of X G a6, F6.binds (ps := ["thing"]) fun _ _ _ _ _ _ us hl => match us, hl with | [_], _ => rfl⟩
  have F7 := fun_mk (st := s_has_form) l7 c7 k7
  have D7 : Def K mg "_has_form" ["thing", "word", "many"] s_has_form := ⟨_, _, F7, PySem.W.mg_of X G a7, F7.binds (ps := ["thing", "word", "many"]) fun _ _ _ _ _ _ us hl => match us, hl with | [_, _, _], _ => rfl⟩
  have F8 := fun_mk (st := s_is_short_text) l8 c8 k8
  have D8 : Def K mg "_is_short_text" ["thing"] s_is_short_text := ⟨_, _, F8, PySem.W.mg_of X G a8, F8.binds (ps := ["thing"]) fun _ _ _ _ _ _ us hl => match us, hl with | [_], _ => rfl⟩
  have F9 := fun_mk (st := s_is_sign) l9 c9 k9
  have D9 : Def K mg "_is_sign" ["sign"] s_is_sign := ⟨_, _, F9, PySem.W.mg_of X G a9, F9.binds (ps := ["sign"]) fun _ _ _ _ _ _ us hl => match us, hl with | [_], _ => rfl⟩
  have F10 := fun_mk (st := s_law_blend) l10 c10 k10
  have D10 : Def K mg "_law_blend" ["cell", "at"] s_law_blend := ⟨_, _, F10, PySem.W.mg_of X G a10, F10.binds (ps := ["cell", "at"]) fun _ _ _ _ _ _ us hl => match us, hl with | [_, _], _ => rfl⟩
  have F11 := fun_mk (st := s_law_pot) l11 c11 k11
  have D11 : Def K mg "_law_pot" ["script"] s_law_pot := ⟨_, _, F11, PySem.W.mg_of X G a11, F11.binds (ps := ["script"]) fun _ _ _ _ _ _ us hl => match us, hl with | [_], _ => rfl⟩
  have F12 := fun_mk (st := s_law_pick) l12 c12 k12
  have D12 : Def K mg "_law_pick" ["pot", "many"] s_law_pick := ⟨_, _, F12, PySem.W.mg_of X G a12, F12.binds (ps := ["pot", "many"]) fun _ _ _ _ _ _ us hl => match us, hl with | [_, _], _ => rfl⟩
  have F13 := fun_mk (st := s_law_same) l13 c13 k13
  have D13 : Def K mg "_law_same" ["found", "due"] s_law_same := ⟨_, _, F13, PySem.W.mg_of X G a13, F13.binds (ps := ["found", "due"]) fun _ _ _ _ _ _ us hl => match us, hl with | [_, _], _ => rfl⟩
  have F14 := fun_mk (st := s_law_order) l14 c14 k14
  have D14 : Def K mg "_law_order" ["pot", "many"] s_law_order := ⟨_, _, F14, PySem.W.mg_of X G a14, F14.binds (ps := ["pot", "many"]) fun _ _ _ _ _ _ us hl => match us, hl with | [_, _], _ => rfl⟩
  have F15 := fun_mk (st := s_law_letters) l15 c15 k15
  have D15 : Def K mg "_law_letters" ["pot", "many"] s_law_letters := ⟨_, _, F15, PySem.W.mg_of X G a15, F15.binds (ps := ["pot", "many"]) fun _ _ _ _ _ _ us hl => match us, hl with | [_, _], _ => rfl⟩
  have F16 := fun_mk (st := s_law_names) l16 c16 k16
  have D16 : Def K mg "_law_names" ["pot", "many"] s_law_names := ⟨_, _, F16, PySem.W.mg_of X G a16, F16.binds (ps := ["pot", "many"]) fun _ _ _ _ _ _ us hl => match us, hl with | [_, _], _ => rfl⟩
  have F17 := fun_mk (st := s_law_text) l17 c17 k17
  have D17 : Def K mg "_law_text" ["pot", "most"] s_law_text := ⟨_, _, F17, PySem.W.mg_of X G a17, F17.binds (ps := ["pot", "most"]) fun _ _ _ _ _ _ us hl => match us, hl with | [_, _], _ => rfl⟩
  have F18 := fun_mk (st := s_law_plain_worth) l18 c18 k18
  have D18 : Def K mg "_law_plain_worth" ["pot", "way"] s_law_plain_worth := ⟨_, _, F18, PySem.W.mg_of X G a18, F18.binds (ps := ["pot", "way"]) fun _ _ _ _ _ _ us hl => match us, hl with | [_, _], _ => rfl⟩
  have F19 := fun_mk (st := s_law_worth) l19 c19 k19
  have D19 : Def K mg "_law_worth" ["pot", "names", "bound"] s_law_worth := ⟨_, _, F19, PySem.W.mg_of X G a19, F19.binds (ps := ["pot", "names", "bound"]) fun _ _ _ _ _ _ us hl => match us, hl with | [_, _, _], _ => rfl⟩
  have F20 := fun_mk (st := s_law_is_name) l20 c20 k20
  have D20 : Def K mg "_law_is_name" ["thing"] s_law_is_name := ⟨_, _, F20, PySem.W.mg_of X G a20, F20.binds (ps := ["thing"]) fun _ _ _ _ _ _ us hl => match us, hl with | [_], _ => rfl⟩
  have F21 := fun_mk (st := s_law_is_plain) l21 c21 k21
  have D21 : Def K mg "_law_is_plain" ["thing"] s_law_is_plain := ⟨_, _, F21, PySem.W.mg_of X G a21, F21.binds (ps := ["thing"]) fun _ _ _ _ _ _ us hl => match us, hl with | [_], _ => rfl⟩
  have F22 := fun_mk (st := s_law_is_worth) l22 c22 k22
  have D22 : Def K mg "_law_is_worth" ["thing"] s_law_is_worth := ⟨_, _, F22, PySem.W.mg_of X G a22, F22.binds (ps := ["thing"]) fun _ _ _ _ _ _ us hl => match us, hl with | [_], _ => rfl⟩
  have F23 := fun_mk (st := s_law_bent) l23 c23 k23
  have D23 : Def K mg "_law_bent" ["pot", "worth"] s_law_bent := ⟨_, _, F23, PySem.W.mg_of X G a23, F23.binds (ps := ["pot", "worth"]) fun _ _ _ _ _ _ us hl => match us, hl with | [_, _], _ => rfl⟩
  have F24 := fun_mk (st := s_law) l24 c24 k24
  have M : MB mg := ⟨PySem.W.mg_none_of X G z1, PySem.W.mg_none_of X G z2, PySem.W.mg_none_of X G z3, PySem.W.mg_none_of X G z4, PySem.W.mg_none_of X G z5, PySem.W.mg_none_of X G z6, PySem.W.mg_none_of X G z7, PySem.W.mg_none_of X G z8, PySem.W.mg_none_of X G z9, PySem.W.mg_none_of X G z10, PySem.W.mg_none_of X G z11, PySem.W.mg_none_of X G z12⟩
  have T : Txt K mg := ⟨M, PySem.W.mg_none_of X G z13, D1, D2, D3, D4, D5, D6, D7, D8, D9, D10, D11, D12, D13, D14, D15, D16, D17, D18, D19, D20, D21, D22, D23⟩
  exact ⟨PySem.W.fnOf "law" "law" (defArgs s_law) (defBody s_law) (defScope s_law) .none kV24 dc24 pm24 an24 cd24 ct24, fun s v => .of_eq rfl, fun base _ _ => all_law T F24⟩
end Kin
open PySem PySem.W PyProof.Rows
set_option maxRecDepth 100000 in
set_option maxHeartbeats 0 in
theorem PySem.Challenge.cw_swiftkin_k01_what_is_a_worth_holds : PySem.Challenge.rw_swiftkin_k01_what_is_a_worth.Holds := by
  w_on; o_law; k_head; (case hw => w_witness2)
  k_fill
  refine Kin.walk_ofG (l := PySem.Challenge.rw_swiftkin_k01_what_is_a_worth) (n := 63) (k := 11) (x := "script") (sp := fun w => Kin.sp_law _) rfl (by decide) rfl ⟨rfl, by decide, by decide⟩ (fun w h Y => PySem.W.kIn_of Y) ?F (fun _ _ a ns hl hS => ⟨a, ns, rfl, hS, hl, fun _ => rfl⟩)
  case F =>
    intro w mg fa h KX G hmg
    refine' Kin.all_mk KX G hmg ?a1 ?l1 ?c1 ?k1 ?a2 ?l2 ?c2 ?k2 ?a3 ?l3 ?c3 ?k3 ?a4 ?l4 ?c4 ?k4 ?a5 ?l5 ?c5 ?k5 ?a6 ?l6 ?c6 ?k6 ?a7 ?l7 ?c7 ?k7 ?a8 ?l8 ?c8 ?k8 ?a9 ?l9 ?c9 ?k9 ?a10 ?l10 ?c10 ?k10 ?a11 ?l11 ?c11 ?k11 ?a12 ?l12 ?c12 ?k12 ?a13 ?l13 ?c13 ?k13 ?a14 ?l14 ?c14 ?k14 ?a15 ?l15 ?c15 ?k15 ?a16 ?l16 ?c16 ?k16 ?a17 ?l17 ?c17 ?k17 ?a18 ?l18 ?c18 ?k18 ?a19 ?l19 ?c19 ?k19 ?a20 ?l20 ?c20 ?k20 ?a21 ?l21 ?c21 ?k21 ?a22 ?l22 ?c22 ?k22 ?a23 ?l23 ?c23 ?k23 ?a24 ?l24 ?c24 ?k24 ?z1 ?z2 ?z3 ?z4 ?z5 ?z6 ?z7 ?z8 ?z9 ?z10 ?z11 ?z12 ?z13
    (case a1 => k_is); (case l1 => k_is); (case c1 => k_is); (case k1 => k_is); (case a2 => k_is); (case l2 => k_is); (case c2 => k_is); (case k2 => k_is); (case a3 => k_is); (case l3 => k_is); (case c3 => k_is); (case k3 => k_is); (case a4 => k_is); (case l4 => k_is); (case c4 => k_is); (case k4 => k_is); (case a5 => k_is); (case l5 => k_is); (case c5 => k_is); (case k5 => k_is); (case a6 => k_is); (case l6 => k_is); (case c6 => k_is); (case k6 => k_is); (case a7 => k_is); (case l7 => k_is); (case c7 => k_is); (case k7 => k_is); (case a8 => k_is); (case l8 => k_is); (case c8 => k_is); (case k8 => k_is); (case a9 => k_is); (case l9 => k_is); (case c9 => k_is); (case k9 => k_is); (case a10 => k_is); (case l10 => k_is); (case c10 => k_is); (case k10 => k_is); (case a11 => k_is); (case l11 => k_is); (case c11 => k_is); (case k11 => k_is); (case a12 => k_is); (case l12 => k_is); (case c12 => k_is); (case k12 => k_is); (case a13 => k_is); (case l13 => k_is); (case c13 => k_is); (case k13 => k_is); (case a14 => k_is); (case l14 => k_is); (case c14 => k_is); (case k14 => k_is); (case a15 => k_is); (case l15 => k_is); (case c15 => k_is); (case k15 => k_is); (case a16 => k_is); (case l16 => k_is); (case c16 => k_is); (case k16 => k_is); (case a17 => k_is); (case l17 => k_is); (case c17 => k_is); (case k17 => k_is); (case a18 => k_is); (case l18 => k_is); (case c18 => k_is); (case k18 => k_is); (case a19 => k_is); (case l19 => k_is); (case c19 => k_is); (case k19 => k_is); (case a20 => k_is); (case l20 => k_is); (case c20 => k_is); (case k20 => k_is); (case a21 => k_is); (case l21 => k_is); (case c21 => k_is); (case k21 => k_is); (case a22 => k_is); (case l22 => k_is); (case c22 => k_is); (case k22 => k_is); (case a23 => k_is); (case l23 => k_is); (case c23 => k_is); (case k23 => k_is); (case a24 => k_is); (case l24 => k_is); (case c24 => k_is); (case k24 => k_is); (case z1 => k_is); (case z2 => k_is); (case z3 => k_is); (case z4 => k_is); (case z5 => k_is); (case z6 => k_is); (case z7 => k_is); (case z8 => k_is); (case z9 => k_is); (case z10 => k_is); (case z11 => k_is); (case z12 => k_is); (case z13 => k_is)
