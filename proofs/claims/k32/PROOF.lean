import PyProof.Rows.All
import Wide.All
import OpenK.AllK
import Wide.FinOn
import HandS.ForMost
import HandS.Wide
import HandS.IsInst
import HandS.Flow
import HandS.Evl
import PyProof.StrBlock2
import HandS.SetFor
import HandS.Strs
import HandS.SortInts
import HandS.Zip
import HandS.Walk
import HandS.WideBits
import HandS.TupAny
import KE.GoesEnum
import HandS.Style
import HandS.Star
import HandS.SortKw
import HandS.More
import HandS.TupMul
import PyProof.EqAt
import PyProof.EqKinds
import PyProof.TupleCall
import KE.KExcSuper
import HandS.ForExc
import HandS.ExcInit
import HandS.ExcIs
import HandS.ExcField
import HandS.ExcValue
import KE.KExcIs
import HandS.Lambda
import HandS.EndTab
import HandS.SuiteRaise
import HandS.Conv
import HandS.TupSets
import PyProof.WalksMore
import PyProof.TupleIter
import HandS.TupLe
import HandS.ExcOwn
import KE.RegKSuper
import KE.RegKIsAll
import PySem.Challenge.RW_leastjournal_k32_programs_too_long_or_to
set_option Elab.async false
set_option linter.all false
set_option maxRecDepth 100000
namespace Lj
open PySem PySem.Spec PyProof.Rows L2
section
variable {X : Cx}
end
section
variable {X : Cx} {CX : CXT} {k : Nat} {f : Addr} {fd : FuncData} {ps ks : List Str} {sp : Sp} {E : XK} {x : Str} {p pos : Pos} {kws : List Keyword} {tk : TA}
  {g : List Value → List Value → List Value} {gV : List V → List V → List V}
end
/-! ### heaps -/
theorem same_new {H : Hp} {p : Addr} {o : HO} (h : H p = none) : Same H (upd H p o) := fun b x e => by
  rw [upd_ne (ne_of_none e h)]
  exact e
/-- all but p stands as before -/
def But (p : Addr) (H H' : Hp) : Prop := ∀ b o, b ≠ p → H b = some o → H' b = some o
theorem But.refl (p : Addr) (H : Hp) : But p H H := fun _ _ _ h => h
theorem But.trans {p : Addr} {H H1 H2 : Hp} (a : But p H H1) (b : But p H1 H2) : But p H H2 := fun c o n h => b c o n (a c o n h)
theorem But.same {p : Addr} {H H' : Hp} (s : Same H H') : But p H H' := fun b o _ h => s b o h
theorem But.new {p q : Addr} {H : Hp} {o : HO} (h : H q = none) : But p H (upd H q o) := But.same (same_new h)
theorem But.upd {p : Addr} {H : Hp} {o : HO} : But p H (upd H p o) := fun b x n e => by
  rw [upd_ne n]
  exact e
theorem But.rd {p a : Addr} {H H' : Hp} {u : HO} (b : But p H H') (n : a ≠ p) (h : Rd H a u) : Rd H' a u := by
  rcases h with h | ⟨o, h⟩
  · exact .inl (b _ _ n h)
  · exact .inr ⟨o, b _ _ n h⟩
theorem But.seq {K : PySem.W.Frag} {p a : Addr} {H H' : Hp} {xs : List V} (b : But p H H') (n : a ≠ p) (h : SqL K H a xs) : SqL K H' a xs := by
  rcases h with h | h
  · exact .inl (b.rd n h)
  · exact .inr h
theorem But.tup {K : PySem.W.Frag} {p a : Addr} {H H' : Hp} {xs : List V} (b : But p H H') (n : a ≠ p) (h : SqT K H a xs) : SqT K H' a xs := by
  rcases h with h | h
  · exact .inl (b.rd n h)
  · exact .inr h
/-! ### the urn: two numbers in a list -/
def wide : Nat := 2 ^ 1000
def Urn (H : Hp) (p : Addr) : Prop := ∃ u v : Int, H p = some (.lst [.int u, .int v]) ∧ 0 ≤ u ∧ u.natAbs < wide ∧ 0 ≤ v ∧ v < 2305843009213693951
theorem Urn.but {p q : Addr} {H H' : Hp} (b : But q H H') (n : p ≠ q) (h : Urn H p) : Urn H' p := by
  obtain ⟨u, v, e, r⟩ := h
  exact ⟨u, v, b _ _ n e, r⟩
theorem Urn.same {p : Addr} {H H' : Hp} (b : Same H H') (h : Urn H p) : Urn H' p := by
  obtain ⟨u, v, e, r⟩ := h
  exact ⟨u, v, b _ _ e, r⟩
theorem Urn.ne {p q : Addr} {H : Hp} (h : Urn H p) (e : H q = none) : q ≠ p := by
  obtain ⟨u, v, e', _⟩ := h
  exact (ne_of_none e' e).symm
theorem Urn.free {p q : Addr} {H H' : Hp} (h : Urn H' p) (b : But p H H') (e : H' q = none) : H q = none := by
  have n := h.ne e
  cases z : H q with
  | none => rfl
  | some o => rw [b _ _ n z] at e; cases e
theorem small {n : Nat} (h : n ≤ 1000) : n ≤ sizeLine := Nat.le_of_lt (small1000 h)
theorem ind_bd (b : Bool) : -(2 ^ 64) < (if b then 1 else 0 : Int) ∧ (if b then 1 else 0 : Int) < 2 ^ 64 := by
  cases b
  · exact ⟨by decide, by decide⟩
  · exact ⟨by decide, by decide⟩
def nx (v : Int) : Int := (v * 1181783497276652981 + 12345678910987) % 2305843009213693951
def ny (v : Int) : Int := (v * 3202034522624059733 + 1) % 2305843009213693951
theorem at_int {ns : List Int} {k : Int} (h0 : 0 ≤ k) (h : k < (ns.length : Int)) : ∃ v : Int, v ∈ ns ∧ atI (ns.map V.int) k = some (.int v) := by
  have hk : k.toNat < ns.length := by omega
  have ek : k = ((k.toNat : Nat) : Int) := by omega
  have q : atI (ns.map V.int) ((k.toNat : Nat) : Int) = some (.int ns[k.toNat]) := atI_nat (by rw [List.getElem?_map, List.getElem?_eq_getElem hk] <;> rfl)
  rw [← ek] at q
  exact ⟨ns[k.toNat], List.getElem_mem hk, q⟩
theorem at_any {xs : List V} {k : Int} (h0 : 0 ≤ k) (h : k < (xs.length : Int)) : ∃ v : V, v ∈ xs ∧ atI xs k = some v := by
  have hk : k.toNat < xs.length := by omega
  have ek : k = ((k.toNat : Nat) : Int) := by omega
  have q : atI xs ((k.toNat : Nat) : Int) = some xs[k.toNat] := atI_nat (List.getElem?_eq_getElem hk)
  rw [← ek] at q
  exact ⟨xs[k.toNat], List.getElem_mem hk, q⟩
theorem iteP {c A B : Prop} [Decidable c] (h : c) (a : A) : if decide c = true then A else B := by
  rw [decide_eq_true h]
  exact a
theorem iteN {c A B : Prop} [Decidable c] (h : ¬ c) (b : B) : if decide c = true then A else B := by
  rw [decide_eq_false h]
  exact b
/-! ### rules with the written part named: for the blocks of comprehensions -/
section
variable {X : Cx} {K : PySem.W.Frag}
theorem ix_listK (h : X.K = K) : IxR X (rIxL K) := h ▸ ix_list
end
end Lj
set_option Elab.async false
set_option linter.all false
set_option maxRecDepth 100000
namespace Lj
open PySem PySem.Spec PyProof.Rows L2
/-! ### promises of defs that are called where no repr is under way -/
/-- the def at f keeps sp wherever nothing is being shown -/
structure FnG (P : Program) (w : World) (K : PySem.W.Frag) (mg : Str → Option Value) (base : Heap) (k : Nat) (f : Addr) (fd : FuncData) (ps : List Str) (sp : Sp) : Prop where
  len : ∀ vs H Q E, sp vs H Q E → vs.length = ps.length
  run : ∀ (A : Around) (out : List Env) (s : Shared) (H : Hp) (as : Args) (us : List Value) (vs : List V) (Q : VK) (E : XK), A.guards = some [] → Room k A → Env0 P w K mg base A out s H →
    BindsTo s fd as (ps.zip us) → Vals vs us → sp vs H Q E → codeAny (model P w) A (.call (.ref f) as) (CR CX0 out P w H s Q E) s
section
variable {P : Program} {w : World} {K : PySem.W.Frag} {mg : Str → Option Value} {base : Heap} {j k : Nat} {f : Addr} {fd : FuncData} {ps : List Str} {sp sp' : Sp}
theorem FnG.of (F : FnOk P w K mg base CX0 k f fd ps sp) : FnG P w K mg base k f fd ps sp := ⟨F.len, fun A out s H as us vs Q E _ => F.run A out s H as us vs Q E⟩
theorem FnG.up (F : FnG P w K mg base j f fd ps sp) (h : j ≤ k) : FnG P w K mg base k f fd ps sp := ⟨F.len, fun A out s H as us vs Q E g r => F.run A out s H as us vs Q E g (r.mono h)⟩
theorem FnG.weak (F : FnG P w K mg base k f fd ps sp) (h : ∀ vs H Q E, sp' vs H Q E → sp vs H Q E) : FnG P w K mg base k f fd ps sp' :=
  ⟨fun vs H Q E q => F.len vs H Q E (h _ _ _ _ q), fun A out s H as us vs Q E g r e b v q => F.run A out s H as us vs Q E g r e b v (h _ _ _ _ q)⟩
/-- by the def's body, where nothing is being shown -/
theorem FnG.body {x qual : Str} {st : Stmt} {N : List Str} (F : Fun K x qual st f fd) (S : FnScope N ps (defScope st)) (len : ∀ vs H Q E, sp vs H Q E → vs.length = ps.length)
    (hb : ∀ (cdv : Value) (A : Around) (out : List Env) (s : Shared) (H : Hp) (vs : List V) (Q : VK) (E : XK), A.guards = some [] → Room k (A.deeper (envOfC qual (defScope st) s.heap.objs.size f cdv)) → sp vs H Q E →
      ∃ t, PSs (cxOf CX0 P w K mg base N qual (defScope st) f cdv A out s H E).nox (defBody st) t ∧ t { nx := fun _ H' => Q .non H', rt := Q } (start N vs) H) : FnG P w K mg base (k + 1) f fd ps sp := by
  obtain ⟨c0, c1, c2, c3, c4, c5, cd, c6, c7, rfl, look, code⟩ := F.ex
  refine ⟨len, fun A out s H as us vs Q E hg room env bind vals want => ?_⟩
  have ln := len _ _ _ _ want
  have old : ∀ b o, base.get? b = some o → s.heap.get? b = some o := fun b o e => (env.bs b o e).1
  have here : K.In s.heap := env.mod.kin.keeps old
  refine codeAny_call_function room.depth (here _ _ look) rfl S.co S.gen rfl (PySem.W.codeRec_of here code) (bind _ _ _ _ ?_)
  refine wpAny_newFunctionEnv_cells S.kind (fun ⟨n, v⟩ m => (S.par n (List.of_mem_zip m).1).elim .inl fun c => .inr ⟨c, PySem.W.cellsFrom_some _ _ _ (.inl c)⟩) fun en he s1 x => ?_
  subst he
  refine ⟨(env.mod.nolimit.keeps old).keeps x.toInCall.keep, codeAny_func ?_⟩
  obtain ⟨t, rule, holds⟩ := hb cd A out s H vs Q E hg (room.deeper _) want
  have start0 := inv_start (CX := CX0) (E := E) S room.hd env ln vals x
  refine wpAny_mono (rule.nox.run [] s1 (start N vs) H _ start0 holds) (fun r s' z => ?_) fun _ _ z => z
  match r, z with
  | .ret u, ⟨v, σ', H', J, rv, q⟩ => exact ⟨v, H', J.os, J.bare, J.base, J.hok, rv, q⟩
  | .next, ⟨σ', H', J, q⟩ => exact ⟨.non, H', J.os, J.bare, J.base, J.hok, rfl, q⟩
  | .brk, ⟨_, _, _, q⟩ => exact False.elim q
  | .cont, ⟨_, _, _, q⟩ => exact False.elim q
end
/-- where a def stands, under the name x, with its promise -/
structure Cal (P : Program) (w : World) (K : PySem.W.Frag) (mg : Str → Option Value) (base : Heap) (k : Nat) (x : Str) (ps : List Str) (f : Addr) (fd : FuncData) (sp : Sp) : Prop where
  ok : FnG P w K mg base k f fd ps sp
  kp : PySem.W.keepIn K (.ref f) = true
  b : Binds K fd ps []
  g : mg x = some (.ref f)
  lk : ∃ oc od osl, K.lookup f = some ⟨oc, od, .func fd, osl⟩
theorem fun_lk {K : PySem.W.Frag} {x qual : Str} {st : Stmt} {f : Addr} {fd : FuncData} (F : Fun K x qual st f fd) : ∃ oc od osl, K.lookup f = some ⟨oc, od, .func fd, osl⟩ := by
  obtain ⟨c0, c1, c2, c3, c4, c5, cd, c6, c7, e, look, code⟩ := F.ex
  exact ⟨_, _, _, look⟩
def Has (P : Program) (w : World) (K : PySem.W.Frag) (mg : Str → Option Value) (base : Heap) (k : Nat) (x : Str) (ps : List Str) (sp : Sp) : Prop := ∃ f fd, Cal P w K mg base k x ps f fd sp
/-- the def of the text st stands under the name x -/
def At (K : PySem.W.Frag) (mg : Str → Option Value) (x : Str) (st : Stmt) (ps : List Str) : Prop := ∃ f fd, Fun K x x st f fd ∧ Binds K fd ps [] ∧ mg x = some (.ref f)
section
variable {P : Program} {w : World} {K : PySem.W.Frag} {mg : Str → Option Value} {base : Heap} {j k : Nat} {x : Str} {ps : List Str} {sp sp' : Sp}
theorem Has.up (h : Has P w K mg base j x ps sp) (l : j ≤ k) : Has P w K mg base k x ps sp := by
  obtain ⟨f, fd, c⟩ := h
  exact ⟨f, fd, c.ok.up l, c.kp, c.b, c.g, c.lk⟩
theorem Has.weak (h : Has P w K mg base k x ps sp) (i : ∀ vs H Q E, sp' vs H Q E → sp vs H Q E) : Has P w K mg base k x ps sp' := by
  obtain ⟨f, fd, c⟩ := h
  exact ⟨f, fd, c.ok.weak i, c.kp, c.b, c.g, c.lk⟩
theorem Has.by {st : Stmt} {N : List Str} (F : At K mg x st ps) (S : FnScope N ps (defScope st)) (len : ∀ vs H Q E, sp vs H Q E → vs.length = ps.length)
    (hb : ∀ (f : Addr) (cdv : Value) (A : Around) (out : List Env) (s : Shared) (H : Hp) (vs : List V) (Q : VK) (E : XK), A.guards = some [] → Room k (A.deeper (envOfC x (defScope st) s.heap.objs.size f cdv)) → sp vs H Q E →
      ∃ t, PSs (cxOf CX0 P w K mg base N x (defScope st) f cdv A out s H E).nox (defBody st) t ∧ t { nx := fun _ H' => Q .non H', rt := Q } (start N vs) H) : Has P w K mg base (k + 1) x ps sp := by
  obtain ⟨f, fd, F, b, g⟩ := F
  exact ⟨f, fd, .body F S len (hb f), F.kp, b, g, fun_lk F⟩
end
/-- the def behind a name is the text's -/
theorem Cal.text {P : Program} {w : World} {K : PySem.W.Frag} {mg : Str → Option Value} {base : Heap} {k : Nat} {x : Str} {ps qs : List Str} {f : Addr} {fd : FuncData} {sp : Sp} {st : Stmt} (c : Cal P w K mg base k x ps f fd sp) (F : At K mg x st qs) : Fun K x x st f fd := by
  obtain ⟨f2, fd2, F2, _, g2⟩ := F
  have e := c.g.symm.trans g2
  cases e
  obtain ⟨_, _, _, l1⟩ := c.lk
  obtain ⟨_, _, _, l2⟩ := fun_lk F2
  have e := l1.symm.trans l2
  cases e
  exact F2
section
variable {X : Cx} {k : Nat} {x : Str} {ps ks : List Str} {f : Addr} {fd : FuncData} {sp : Sp} {p pos : Pos} {e : Expr} {es : List Expr} {kws : List Keyword} {t tk : TA}
  {g : List Value → List Value → List Value} {gV : List V → List V → List V}
def tCal (sp : Sp) (t : TA) : TE := fun σ H Q => t σ H fun vs H1 => sp vs H1 Q E0
theorem cal_run {pins : List (Addr × Obj)} {σ : L2.St} {H : Hp} {s : Shared} {Q : VK} {us ws zs : List Value} {vs : List V} {kw : List (Str × Value)} {s2 : Shared} (c : FnG X.prog X.w X.K X.mg X.base k f fd ps sp) (hg : X.A.guards = some []) (hr : Room k X.A)
    (I : Inv X pins σ H s) (bind : BindsTo s fd ⟨us, kw⟩ (ps.zip zs)) (vals : Vals vs zs) (h : sp vs H Q E0) : wpAny (model X.prog X.w) X.A (call (.ref f) us kw) (EP X pins σ Q) X.xe s := by
  refine wpAny_call (codeAny_mono (c.run X.A X.stack s H ⟨us, kw⟩ zs vs Q E0 hg hr I.env0 bind vals h) fun r s' z => ?_)
  match r, z with
  | .error _, z => exact z.elim
  | .ok (.ret _), z => exact I.after z
  | .ok .next, z => exact z.elim
  | .ok .brk, z => exact z.elim
  | .ok .cont, z => exact z.elim
/-- f(e, ..) -/
theorem pe_cal (c : Cal X.prog X.w X.K X.mg X.base k x ps f fd sp) (hg : X.A.guards = some []) (hr : Room k X.A) (gl : Gl X x) (ha : PA X (e :: es) t) (hdb : (x == ("__debug__" : Str)) = false := by decide)
    (he : starEach (e :: es) X.env = (false, eval e X.env) :: starEach es X.env := by rfl) (hpl : (backTo pos (starEach es X.env)).any (·.1) = false := by rfl) :
    PE X (.Call (.Name x p) (e :: es) [] pos) (tCal sp t) := by
  refine ⟨fun pins s σ H Q I h => wpAny_Call_Name_kw (ld_glob I gl c.g ?_ hdb)⟩
  refine PySem.W.callWith_K (h₀ := X.base) I.ok.mod.kin c.kp (thn (ha.run pos pins s σ H _ I h) fun us s1 ⟨vs, H1, I1, r, q⟩ => ⟨I1.kIn, ?_⟩) he hpl
  have ln : (us ++ []).length = ps.length := by
    rw [List.append_nil, ← r.length]
    exact c.ok.len _ _ _ _ q
  have bd := c.b s1 us I1.kIn ln
  rw [List.append_nil] at bd
  exact cal_run (ws := []) (s2 := s1) c.ok hg hr I1 bd r q
end
/-! ### repr of data -/
theorem repr_flat {P : Program} {w : World} {A : Around} {E : Value → Shared → Prop} {s : Shared} {u : Value} {d : PyData} {as : List Addr} {Q : Value → Shared → Prop} (r : Reads s.heap u d as) (sh : d.showable = true) (nd : d.hasDict = false) (hg : A.guards = some []) (hu : A.units + (d.depth + 1) < cLine) (sz : d.shown.length ≤ sizeLine)
    (hQ : ∀ h' t tk, (∀ b o, s.heap.get? b = some o → h'.get? b = some o) → Q (.str d.shown t) { s with heap := h', toks := tk }) : wpAny (model P w) A (call (.builtin "repr") [u]) Q E s := by
  have no : ∀ b o, s.heap.get? b = some o → s.heap.get? b = some o := fun _ _ e => e
  cases r with
  | none => exact _root_.PySem.P.repr_of_none (hQ s.heap s.toks (s.toks + 1) no)
  | bool b =>
    refine _root_.PySem.P.repr_of_bool ?_
    cases b
    · exact hQ s.heap s.toks (s.toks + 1) no
    · exact hQ s.heap s.toks (s.toks + 1) no
  | int i t => exact _root_.PySem.P.repr_of_int (of_decide_eq_true sh) (hQ s.heap s.toks (s.toks + 1) no)
  | str x t => exact _root_.PySem.P.repr_of_str (hQ s.heap s.toks (s.toks + 1) no) sz
  | list a b c d => exact PySem.repr_of_reads' (.list a b c d) sh (fun z => by rw [nd] at z; cases z) hg hu no (fun h' t tk z => hQ h' t tk z) sz
  | tuple a b c d => exact PySem.repr_of_reads' (.tuple a b c d) sh (fun z => by rw [nd] at z; cases z) hg hu no (fun h' t tk z => hQ h' t tk z) sz
  | dict a b c d e => cases nd
section
variable {X : Cx} {k : Nat}
/-- repr(x), x data without dicts -/
theorem call_reprD (hg : X.A.guards = some []) (hr : Room k X.A) : CallR X (.builtin "repr") (fun xs H Q => ∃ x d, xs = [x] ∧ Dp X.K H x d ∧ d.showable = true ∧ d.hasDict = false ∧ d.depth ≤ 64 ∧ d.shown.length ≤ sizeLine ∧ Q (.str d.shown) H) := by
  intro pins s σ H xs us Q I r h
  obtain ⟨x, d, rfl, dp, sh, nd, de, sz, q⟩ := h
  obtain ⟨u, rfl, ru⟩ := r.one
  obtain ⟨as, rd⟩ := Dp.reads I d x u dp ru
  have un := hr.un
  exact repr_flat rd sh nd hg (by omega) sz fun h' t tk keep => ⟨.str _, H, I.kept keep, ⟨_, rfl⟩, q⟩
end
/-! ### the end: the law's promise where the claim's caller calls it -/
end Lj
set_option Elab.async false
set_option linter.all false
set_option maxRecDepth 100000
namespace Lj
open PySem PySem.Spec PyProof.Rows L2
/-! ### objects whose methods are called where nothing is being shown -/
/-- a method of C, with its promise -/
structure MCal (P : Program) (w : World) (K : PySem.W.Frag) (mg : Str → Option Value) (base : Heap) (k : Nat) (C : Addr) (m : Str) (ps : List Str) (f : Addr) (fd : FuncData) (sp : Sp) : Prop where
  ok : FnG P w K mg base k f fd ps sp
  b : Binds K fd ps []
  me : Meth K C m f
  cl : Cls K C
def MHas (P : Program) (w : World) (K : PySem.W.Frag) (mg : Str → Option Value) (base : Heap) (k : Nat) (C : Addr) (m : Str) (ps : List Str) (sp : Sp) : Prop := ∃ f fd, MCal P w K mg base k C m ps f fd sp
/-- the method's text stands in the class -/
def MAt (K : PySem.W.Frag) (C : Addr) (m qual : Str) (st : Stmt) (ps : List Str) : Prop := ∃ f fd, Fun K m qual st f fd ∧ Binds K fd ps [] ∧ Meth K C m f ∧ Cls K C
/-- a class that is made, with its __init__'s promise -/
structure KCal (P : Program) (w : World) (K : PySem.W.Frag) (mg : Str → Option Value) (base : Heap) (k : Nat) (C : Addr) (x : Str) (ps : List Str) (f : Addr) (fd : FuncData) (sp : Sp) : Prop where
  ok : FnG P w K mg base k f fd ps sp
  b : Binds K fd ps []
  mkc : Mk K C f
  g : mg x = some (.ref C)
def KHas (P : Program) (w : World) (K : PySem.W.Frag) (mg : Str → Option Value) (base : Heap) (k : Nat) (C : Addr) (x : Str) (ps : List Str) (sp : Sp) : Prop := ∃ f fd, KCal P w K mg base k C x ps f fd sp
def KAt (K : PySem.W.Frag) (mg : Str → Option Value) (C : Addr) (x qual : Str) (st : Stmt) (ps : List Str) : Prop := ∃ f fd, Fun K "__init__" qual st f fd ∧ Binds K fd ps [] ∧ Mk K C f ∧ mg x = some (.ref C)
section
variable {P : Program} {w : World} {K : PySem.W.Frag} {mg : Str → Option Value} {base : Heap} {j k : Nat} {C : Addr} {x m qual : Str} {ps : List Str} {sp sp' : Sp}
theorem MHas.up (h : MHas P w K mg base j C m ps sp) (l : j ≤ k) : MHas P w K mg base k C m ps sp := by
  obtain ⟨f, fd, c⟩ := h
  exact ⟨f, fd, c.ok.up l, c.b, c.me, c.cl⟩
theorem KHas.up (h : KHas P w K mg base j C x ps sp) (l : j ≤ k) : KHas P w K mg base k C x ps sp := by
  obtain ⟨f, fd, c⟩ := h
  exact ⟨f, fd, c.ok.up l, c.b, c.mkc, c.g⟩
theorem MHas.by {st : Stmt} {N : List Str} (F : MAt K C m qual st ps) (S : FnScope N ps (defScope st)) (len : ∀ vs H Q E, sp vs H Q E → vs.length = ps.length)
    (hb : ∀ (f : Addr) (cdv : Value) (A : Around) (out : List Env) (s : Shared) (H : Hp) (vs : List V) (Q : VK) (E : XK), A.guards = some [] → Room k (A.deeper (envOfC qual (defScope st) s.heap.objs.size f cdv)) → sp vs H Q E →
      ∃ t, PSs (cxOf CX0 P w K mg base N qual (defScope st) f cdv A out s H E).nox (defBody st) t ∧ t { nx := fun _ H' => Q .non H', rt := Q } (start N vs) H) : MHas P w K mg base (k + 1) C m ps sp := by
  obtain ⟨f, fd, F, b, g, c⟩ := F
  exact ⟨f, fd, .body F S len (hb f), b, g, c⟩
theorem KHas.by {st : Stmt} {N : List Str} (F : KAt K mg C x qual st ps) (S : FnScope N ps (defScope st)) (len : ∀ vs H Q E, sp vs H Q E → vs.length = ps.length)
    (hb : ∀ (f : Addr) (cdv : Value) (A : Around) (out : List Env) (s : Shared) (H : Hp) (vs : List V) (Q : VK) (E : XK), A.guards = some [] → Room k (A.deeper (envOfC qual (defScope st) s.heap.objs.size f cdv)) → sp vs H Q E →
      ∃ t, PSs (cxOf CX0 P w K mg base N qual (defScope st) f cdv A out s H E).nox (defBody st) t ∧ t { nx := fun _ H' => Q .non H', rt := Q } (start N vs) H) : KHas P w K mg base (k + 1) C x ps sp := by
  obtain ⟨f, fd, F, b, g, c⟩ := F
  exact ⟨f, fd, .body F S len (hb f), b, g, c⟩
/-- no promise is asked for -/
theorem FnG.none {f : Addr} {fd : FuncData} (no : ∀ vs H Q E, ¬ sp vs H Q E) : FnG P w K mg base k f fd ps sp := ⟨fun vs H Q E h => (no _ _ _ _ h).elim, fun _ _ _ _ _ _ _ _ _ _ _ _ _ _ h => (no _ _ _ _ h).elim⟩
theorem MHas.none {st : Stmt} (F : MAt K C m qual st ps) (no : ∀ vs H Q E, ¬ sp vs H Q E) : MHas P w K mg base k C m ps sp := by
  obtain ⟨f, fd, F, b, g, c⟩ := F
  exact ⟨f, fd, .none no, b, g, c⟩
theorem KHas.none {st : Stmt} (F : KAt K mg C x qual st ps) (no : ∀ vs H Q E, ¬ sp vs H Q E) : KHas P w K mg base k C x ps sp := by
  obtain ⟨f, fd, F, b, g, c⟩ := F
  exact ⟨f, fd, .none no, b, g, c⟩
end
section
variable {X : Cx} {k : Nat} {x m : Str} {ps : List Str} {f C : Addr} {fd : FuncData} {sp : Sp} {p pos apos : Pos} {e o : Expr} {es : List Expr} {t : TA} {ta : TE}
def tKC (C : Addr) (sp : Sp) (t : TA) : TE := fun σ H Q => t σ H fun vs H1 => ∀ x dx, H1 x = none → H1 dx = none → dx ≠ x → sp (.ref x :: vs) (upd (upd H1 dx (.own x)) x (.ins C dx [])) (fun v H2 => v = .non ∧ Q (.ref x) H2) E0
/-- an attribute, in a comprehension's block -/
theorem pe_fldK {K : PySem.W.Frag} {f : Str} (h : X.K = K) (he : PE X e ta) (hb : attributeBase e f X.env (eval e X.env) = eval e X.env) : PE X (.Attribute e f pos) (tFld K ta f) := h ▸ pe_fld he hb
/-- C(e, ..) -/
theorem pe_kcal (c : KCal X.prog X.w X.K X.mg X.base k C x ps f fd sp) (hg : X.A.guards = some []) (hr : Room (k + 1) X.A) (gl : Gl X x) (ha : PA X (e :: es) t) (hdb : (x == ("__debug__" : Str)) = false := by decide)
    (he : starEach (e :: es) X.env = (false, eval e X.env) :: starEach es X.env := by rfl) (hpl : (backTo pos (starEach es X.env)).any (·.1) = false := by rfl) :
    PE X (.Call (.Name x p) (e :: es) [] pos) (tKC C sp t) := by
  refine ⟨fun pins s σ H Q I h => ?_⟩
  refine wpAny_Call_Name_kw (ld_glob I gl c.g ?_ hdb)
  refine PySem.W.callWith_K (h₀ := X.base) I.ok.mod.kin c.mkc.kp (thn (ha.run pos pins s σ H _ I h) fun us s1 ⟨vs, H1, I1, r, q⟩ => ⟨I1.kIn, ?_⟩) he hpl
  have hq := q (s1.heap.objs.size + 1) s1.heap.objs.size (I1.hok.fresh (Nat.le_succ _)) (I1.hok.fresh (Nat.le_refl _)) (Nat.ne_of_lt (Nat.lt_succ_self _))
  have I2 := Inv.made (C := C) I1
  have r2 : Vals (V.ref (s1.heap.objs.size + 1) :: vs) (Value.ref (s1.heap.objs.size + 1) :: us) := .cons rfl r
  have ln : ((Value.ref (s1.heap.objs.size + 1) :: us) ++ []).length = ps.length := by
    rw [List.append_nil, ← r2.length]
    exact c.ok.len _ _ _ _ hq
  have bd := c.b _ (Value.ref (s1.heap.objs.size + 1) :: us) I2.kIn ln
  rw [List.append_nil] at bd
  refine wpAny_call (make_map (f := f) I1.kIn c.mkc.makes c.mkc.init (beq_iff_eq.mp c.mkc.fn) (codeAny_mono (c.ok.run _ X.stack _ _ ⟨Value.ref (s1.heap.objs.size + 1) :: us, []⟩ (Value.ref (s1.heap.objs.size + 1) :: us) _ _ E0 (by exact hg) (hr.make C us [])
    (I2.env0.make C us []) bd r2 hq) fun r s' hq' => ?_))
  match r, hq' with
  | .error _, z => exact z.elim
  | .ok (.ret u), z =>
    obtain ⟨v, H', I3, rv, ev, q3⟩ := I2.after z
    subst ev
    exact ⟨rv, ⟨V.ref (s1.heap.objs.size + 1), H', I3, rfl, q3⟩⟩
  | .ok .next, z => exact z.elim
  | .ok .brk, z => exact z.elim
  | .ok .cont, z => exact z.elim
end
end Lj
set_option Elab.async false
set_option linter.all false
set_option maxRecDepth 100000
namespace Lj
open PySem PySem.Spec PyProof.Rows L2
/-- the built-ins are not hidden by names of the module -/
structure Bl (mg : Str → Option Value) : Prop where
  len_ : mg "len" = none
  abs_ : mg "abs" = none
  int_ : mg "int" = none
  range_ : mg "range" = none
  max_ : mg "max" = none
  min_ : mg "min" = none
  all_ : mg "all" = none
  sum_ : mg "sum" = none
  list_ : mg "list" = none
  tuple_ : mg "tuple" = none
  isinstance_ : mg "isinstance" = none
  bool_ : mg "bool" = none
  repr_ : mg "repr" = none
  enumerate_ : mg "enumerate" = none
  zip_ : mg "zip" = none
  divmod_ : mg "divmod" = none
theorem Has.none {P : Program} {w : World} {K : PySem.W.Frag} {mg : Str → Option Value} {base : Heap} {k : Nat} {x : Str} {ps : List Str} {sp : Sp} {st : Stmt} (F : At K mg x st ps) (no : ∀ vs H Q E, ¬ sp vs H Q E) : Has P w K mg base k x ps sp := by
  obtain ⟨f, fd, F, b, g⟩ := F
  exact ⟨f, fd, ⟨fun vs H Q E h => absurd h (no vs H Q E), fun A out s H as us vs Q E _ _ _ _ _ h => absurd h (no vs H Q E)⟩, F.kp, b, g, fun_lk F⟩
/-! ### trees: instructions -/
inductive Tr where
  | op (w : Str) (as : List Int)
  | loop (k : Int) (b : List Tr)
mutual
def Tr.len : Tr → Int
  | .op _ _ => 1
  | .loop k b => k * lens b
def lens : List Tr → Int
  | [] => 0
  | t :: r => t.len + lens r
end
mutual
def Tr.inn : Tr → Int
  | .op _ _ => 0
  | .loop _ b => (b.length : Int) + inns b
def inns : List Tr → Int
  | [] => 0
  | t :: r => t.inn + inns r
end
def szs (b : List Tr) : Int := (b.length : Int) + inns b
mutual
def Tr.dep : Tr → Int
  | .op _ _ => 0
  | .loop _ b => 1 + deps b
def deps : List Tr → Int
  | [] => 0
  | t :: r => if t.dep > deps r then t.dep else deps r
end
mutual
def Tr.cnt (w : Str) : Tr → Int
  | .op u _ => if u = w then 1 else 0
  | .loop k b => k * cnts w b
def cnts (w : Str) : List Tr → Int
  | [] => 0
  | t :: r => t.cnt w + cnts w r
end
mutual
/-- what is executed, one after another -/
def Tr.ex : Tr → List Tr
  | .op w as => [.op w as]
  | .loop k b => (List.replicate k.toNat (exs b)).flatten
def exs : List Tr → List Tr
  | [] => []
  | t :: r => t.ex ++ exs r
end
mutual
/-- loops at most n deep, the words of the others not loop -/
def Tr.wf : Tr → Nat → Prop
  | .op w _, _ => w ≠ "loop"
  | .loop _ _, 0 => False
  | .loop k b, n + 1 => 0 ≤ k ∧ k ≤ 10 ^ 18 ∧ b.length ≤ 1000 ∧ wfs b n
def wfs : List Tr → Nat → Prop
  | [], _ => True
  | t :: r, n => t.wf n ∧ wfs r n
end
/-- a body for functions that may go n - 1 loops down -/
def okB : Nat → List Tr → Prop
  | 0, _ => False
  | n + 1, b => wfs b n ∧ b.length ≤ 1000
theorem lens_map : ∀ b : List Tr, lens b = (b.map Tr.len).sum
  | [] => rfl
  | t :: r => by rw [lens, lens_map r, List.map_cons, List.sum_cons]
theorem inns_map : ∀ b : List Tr, inns b = (b.map Tr.inn).sum
  | [] => rfl
  | t :: r => by rw [inns, inns_map r, List.map_cons, List.sum_cons]
theorem cnts_map (w : Str) : ∀ b : List Tr, cnts w b = (b.map (Tr.cnt w)).sum
  | [] => rfl
  | t :: r => by rw [cnts, cnts_map w r, List.map_cons, List.sum_cons]
theorem exs_map : ∀ b : List Tr, exs b = (b.map Tr.ex).flatten
  | [] => rfl
  | t :: r => by rw [exs, exs_map r, List.map_cons, List.flatten_cons]
theorem wfs_get : ∀ {b : List Tr} {n i : Nat} {t : Tr}, wfs b n → b[i]? = some t → t.wf n
  | [], _, _, _, _, e => by simp at e
  | t :: r, n, 0, u, h, e => by
    cases e
    rw [wfs] at h
    exact h.1
  | t :: r, n, i + 1, u, h, e => by
    rw [wfs] at h
    exact wfs_get (i := i) h.2 e
theorem wfs_all : ∀ {b : List Tr} {n : Nat}, (∀ t ∈ b, t.wf n) → wfs b n
  | [], _, _ => by rw [wfs]; trivial
  | t :: r, n, h => by
    rw [wfs]
    exact ⟨h t List.mem_cons_self, wfs_all fun u m => h u (List.mem_cons_of_mem _ m)⟩
theorem okB_loop {b b' : List Tr} {n i : Nat} {k : Int} (h : okB (n + 1) b) (e : b[i]? = some (.loop k b')) : 0 ≤ k ∧ k ≤ 10 ^ 18 ∧ okB n b' := by
  have z := wfs_get h.1 e
  cases n with
  | zero => rw [Tr.wf] at z; exact z.elim
  | succ m =>
    rw [Tr.wf] at z
    exact ⟨z.1, z.2.1, z.2.2.2, z.2.2.1⟩
theorem okB_op {b : List Tr} {n i : Nat} {w : Str} {as : List Int} (h : okB (n + 1) b) (e : b[i]? = some (.op w as)) : w ≠ "loop" := by
  have z := wfs_get h.1 e
  rw [Tr.wf] at z
  exact z
theorem at0 {x : V} {xs : List V} : atI (x :: xs) 0 = some x := atI_nat (j := 0) rfl
theorem sum_next {f : Tr → Int} {b : List Tr} {i : Nat} {t : Tr} (e : b[i]? = some t) : ((b.take (i + 1)).map f).sum = ((b.take i).map f).sum + f t := by
  rw [List.take_add_one, e, List.map_append, List.sum_append]
  show _ + (f t + 0) = _
  rw [Int.add_zero]
theorem map_next {α : Type} {f : Tr → α} {b : List Tr} {i : Nat} {t : Tr} (e : b[i]? = some t) : (b.take (i + 1)).map f = (b.take i).map f ++ [f t] := by
  rw [List.take_add_one, e, List.map_append]
  rfl
/-! ### trees in the heap -/
def Kt (H H' : Hp) : Prop := ∀ a xs, Rd H a (.tup xs) → Rd H' a (.tup xs)
theorem Kt.refl (H : Hp) : Kt H H := fun _ _ h => h
theorem Kt.trans {H H1 H2 : Hp} (a : Kt H H1) (b : Kt H1 H2) : Kt H H2 := fun c o h => b c o (a c o h)
theorem Kt.same {H H' : Hp} (s : Same H H') : Kt H H' := fun a xs h => by
  rcases h with h | ⟨o, h⟩
  · exact .inl (s _ _ h)
  · exact .inr ⟨o, s _ _ h⟩
theorem Kt.but {p : Addr} {H H' : Hp} {xs : List V} (b : But p H H') (e : H p = some (.lst xs)) : Kt H H' := fun a ys h => by
  refine b.rd (fun z => ?_) h
  subst z
  rcases h with h | ⟨o, h⟩
  · rw [e] at h; cases h
  · rw [e] at h; cases h
theorem Urn.kt {p : Addr} {H H' : Hp} (u : Urn H p) (b : But p H H') : Kt H H' := by
  obtain ⟨_, _, e, _⟩ := u
  exact Kt.but b e
theorem Kt.sq {K : PySem.W.Frag} {H H' : Hp} {a : Addr} {xs : List V} (k : Kt H H') (h : SqT K H a xs) : SqT K H' a xs := by
  rcases h with h | h
  · exact .inl (k _ _ h)
  · exact .inr h
mutual
def TrAt (K : PySem.W.Frag) (H : Hp) : Tr → V → Prop
  | .op w as, v => ∃ a, v = .ref a ∧ SqT K H a (.str w :: as.map V.int)
  | .loop k b, v => ∃ a c vs, v = .ref a ∧ SqT K H a [.str "loop", .int k, .ref c] ∧ SqT K H c vs ∧ TrsAt K H b vs
def TrsAt (K : PySem.W.Frag) (H : Hp) : List Tr → List V → Prop
  | [], vs => vs = []
  | t :: r, vs => ∃ v us, vs = v :: us ∧ TrAt K H t v ∧ TrsAt K H r us
end
def BodyAt (K : PySem.W.Frag) (H : Hp) (b : List Tr) (v : V) : Prop := ∃ c vs, v = .ref c ∧ SqT K H c vs ∧ TrsAt K H b vs
mutual
theorem TrAt.kt {K : PySem.W.Frag} {H H' : Hp} (k : Kt H H') : ∀ (t : Tr) (v : V), TrAt K H t v → TrAt K H' t v
  | .op w as, v, h => by
    rw [TrAt] at h ⊢
    obtain ⟨a, e, s⟩ := h
    exact ⟨a, e, k.sq s⟩
  | .loop n b, v, h => by
    rw [TrAt] at h ⊢
    obtain ⟨a, c, vs, e, s, s2, r⟩ := h
    exact ⟨a, c, vs, e, k.sq s, k.sq s2, TrsAt.kt k b vs r⟩
theorem TrsAt.kt {K : PySem.W.Frag} {H H' : Hp} (k : Kt H H') : ∀ (b : List Tr) (vs : List V), TrsAt K H b vs → TrsAt K H' b vs
  | [], vs, h => by
    rw [TrsAt] at h ⊢
    exact h
  | t :: r, vs, h => by
    rw [TrsAt] at h ⊢
    obtain ⟨v, us, e, a, b⟩ := h
    exact ⟨v, us, e, TrAt.kt k t v a, TrsAt.kt k r us b⟩
end
theorem BodyAt.kt {K : PySem.W.Frag} {H H' : Hp} {b : List Tr} {v : V} (k : Kt H H') (h : BodyAt K H b v) : BodyAt K H' b v := by
  obtain ⟨c, vs, e, s, r⟩ := h
  exact ⟨c, vs, e, k.sq s, TrsAt.kt k b vs r⟩
theorem TrsAt.length {K : PySem.W.Frag} {H : Hp} : ∀ {b : List Tr} {vs : List V}, TrsAt K H b vs → vs.length = b.length
  | [], vs, h => by
    rw [TrsAt] at h
    rw [h]
    rfl
  | t :: r, vs, h => by
    rw [TrsAt] at h
    obtain ⟨v, us, rfl, _, k⟩ := h
    rw [List.length_cons, List.length_cons, TrsAt.length k]
theorem TrsAt.get {K : PySem.W.Frag} {H : Hp} : ∀ {b : List Tr} {vs : List V} {i : Nat} {v : V}, TrsAt K H b vs → vs[i]? = some v → ∃ t, b[i]? = some t ∧ TrAt K H t v
  | [], vs, i, v, h, e => by
    rw [TrsAt] at h
    rw [h] at e
    simp at e
  | t :: r, vs, 0, v, h, e => by
    rw [TrsAt] at h
    obtain ⟨v', us, rfl, a, _⟩ := h
    cases e
    exact ⟨t, rfl, a⟩
  | t :: r, vs, i + 1, v, h, e => by
    rw [TrsAt] at h
    obtain ⟨v', us, rfl, _, k⟩ := h
    exact TrsAt.get (i := i) k e
theorem TrsAt.append {K : PySem.W.Frag} {H : Hp} : ∀ {b c : List Tr} {vs us : List V}, TrsAt K H b vs → TrsAt K H c us → TrsAt K H (b ++ c) (vs ++ us)
  | [], c, vs, us, h, k => by
    rw [TrsAt] at h
    rw [h]
    exact k
  | t :: r, c, vs, us, h, k => by
    rw [TrsAt] at h
    obtain ⟨v, ws, rfl, a, l⟩ := h
    show TrsAt K H (t :: (r ++ c)) (v :: (ws ++ us))
    rw [TrsAt]
    exact ⟨v, _, rfl, a, TrsAt.append l k⟩
theorem TrsAt.one {K : PySem.W.Frag} {H : Hp} {t : Tr} {v : V} (h : TrAt K H t v) : TrsAt K H [t] [v] := by
  rw [TrsAt]
  exact ⟨v, [], rfl, h, by rw [TrsAt]⟩
theorem TrsAt.nil {K : PySem.W.Frag} {H : Hp} : TrsAt K H [] [] := by rw [TrsAt]
/-! ### promises about trees -/
def spTI (K : PySem.W.Frag) (ok : List Tr → Prop) (f : List Tr → Int) : Sp := fun vs H Q _ => ∃ v b, vs = [v] ∧ BodyAt K H b v ∧ ok b ∧ ∀ H', Same H H' → Q (.int (f b)) H'
def spWI (K : PySem.W.Frag) (ok : List Tr → Prop) : Sp := fun vs H Q _ => ∃ v b w, vs = [v, .str w] ∧ BodyAt K H b v ∧ ok b ∧ w ≠ "loop" ∧ ∀ H', Same H H' → Q (.int (cnts w b)) H'
theorem same_upd {H H' : Hp} {D : Addr} {o : HO} (s : Same H H') (n : H D = none) : Same H (upd H' D o) := fun b x e => by
  rw [upd_ne (ne_of_none e n)]
  exact s _ _ e
end Lj
namespace Lj
mutual
theorem Tr.dep_nn : ∀ t : Tr, 0 ≤ t.dep
  | .op _ _ => by rw [Tr.dep]; decide
  | .loop _ b => by
    rw [Tr.dep]
    have := deps_nn b
    omega
theorem deps_nn : ∀ b : List Tr, 0 ≤ deps b
  | [] => by rw [deps]; decide
  | t :: r => by
    rw [deps]
    have h1 := Tr.dep_nn t
    have h2 := deps_nn r
    split <;> omega
end
end Lj
set_option Elab.async false
set_option linter.all false
set_option maxRecDepth 100000
namespace Lj
open PySem PySem.Spec PyProof.Rows L2
/-! ### list.count of texts -/
/-! ### instructions as the laws draw them -/
def W7 : List Str := ["set", "copy", "add", "scale", "swap", "read", "write"]
theorem W7_noloop {w : Str} (h : w ∈ W7) : w ≠ "loop" := by
  have z : (W7.all fun w => !(w == ("loop" : Str))) = true := by decide
  have k := List.all_eq_true.mp z w h
  intro e
  subst e
  revert k
  decide
def GoodOp (p n : Int) (w : Str) (as : List Int) : Prop :=
  ((w = "set" ∨ w = "scale") ∧ ∃ x c, as = [x, c] ∧ 0 ≤ x ∧ x < n ∧ 0 ≤ c ∧ c < p) ∨
  ((w = "read" ∨ w = "write") ∧ ∃ x, as = [x] ∧ 0 ≤ x ∧ x < n) ∨
  ((w = "copy" ∨ w = "swap") ∧ ∃ x y, as = [x, y] ∧ 0 ≤ x ∧ x < n ∧ 0 ≤ y ∧ y < n ∧ x ≠ y) ∨
  (w = "add" ∧ ∃ x y c, as = [x, y, c] ∧ 0 ≤ x ∧ x < n ∧ 0 ≤ y ∧ y < n ∧ x ≠ y ∧ 1 ≤ c ∧ c < p)
theorem GoodOp.w7 {p n : Int} {w : Str} {as : List Int} (h : GoodOp p n w as) : w ∈ W7 := by
  rcases h with ⟨rfl | rfl, _⟩ | ⟨rfl | rfl, _⟩ | ⟨rfl | rfl, _⟩ | ⟨rfl, _⟩ <;> decide
mutual
/-- drawn: at most l instructions, loops at most d deep, half as many within; G: of the others, R: of the rounds -/
def Tr.made (G : Str → List Int → Prop) (R : Int → Prop) : Tr → Nat → Nat → Prop
  | .op w as, _, _ => G w as
  | .loop _ _, _, 0 => False
  | .loop k b, l, d + 1 => R k ∧ b.length ≤ l / 2 ∧ mades G R b (l / 2) d
def mades (G : Str → List Int → Prop) (R : Int → Prop) : List Tr → Nat → Nat → Prop
  | [], _, _ => True
  | t :: r, l, d => t.made G R l d ∧ mades G R r l d
end
theorem mades_nil {G : Str → List Int → Prop} {R : Int → Prop} {l d : Nat} : mades G R [] l d := by
  rw [mades]
  trivial
mutual
theorem Tr.made_wf {G : Str → List Int → Prop} {R : Int → Prop} (hG : ∀ w as, G w as → w ∈ W7) (hR : ∀ k, R k → 0 ≤ k ∧ k ≤ 10 ^ 18) : ∀ (t : Tr) (l d : Nat), l ≤ 1000 → t.made G R l d → t.wf d
  | .op w as, l, d, _, h => by
    rw [Tr.made] at h
    rw [Tr.wf]
    exact W7_noloop (hG w as h)
  | .loop k b, l, 0, _, h => by
    rw [Tr.made] at h
    exact h.elim
  | .loop k b, l, d + 1, hl, h => by
    rw [Tr.made] at h
    rw [Tr.wf]
    exact ⟨(hR k h.1).1, (hR k h.1).2, by omega, mades_wf hG hR b (l / 2) d (by omega) h.2.2⟩
theorem mades_wf {G : Str → List Int → Prop} {R : Int → Prop} (hG : ∀ w as, G w as → w ∈ W7) (hR : ∀ k, R k → 0 ≤ k ∧ k ≤ 10 ^ 18) : ∀ (b : List Tr) (l d : Nat), l ≤ 1000 → mades G R b l d → wfs b d
  | [], _, _, _, _ => by rw [wfs]; trivial
  | t :: r, l, d, hl, h => by
    rw [mades] at h
    rw [wfs]
    exact ⟨Tr.made_wf hG hR t l d hl h.1, mades_wf hG hR r l d hl h.2⟩
end
/-- the most steps that such a body executes, loops of at most 3 rounds -/
def most : Nat → Nat → Nat
  | 0, _ => 1
  | d + 1, l => max 1 (3 * ((l / 2) * most d (l / 2)))
mutual
theorem Tr.made_ex {G : Str → List Int → Prop} {R : Int → Prop} (hR : ∀ k, R k → 0 ≤ k ∧ k ≤ 3) : ∀ (t : Tr) (l d : Nat), t.made G R l d → t.ex.length ≤ most d l
  | .op w as, l, 0, h => by rw [Tr.ex, most]; exact Nat.le_refl 1
  | .op w as, l, d + 1, h => by rw [Tr.ex, most]; exact Nat.le_max_left _ _
  | .loop k b, l, 0, h => by
    rw [Tr.made] at h
    exact h.elim
  | .loop k b, l, d + 1, h => by
    rw [Tr.made] at h
    have ih := mades_ex hR b (l / 2) d h.2.2
    have hk := hR k h.1
    rw [Tr.ex, most, List.length_flatten, List.map_replicate, List.sum_replicate_nat]
    refine Nat.le_trans ?_ (Nat.le_max_right _ _)
    have h1 : (exs b).length ≤ l / 2 * most d (l / 2) := Nat.le_trans ih (Nat.mul_le_mul_right _ h.2.1)
    exact Nat.mul_le_mul (by omega) h1
theorem mades_ex {G : Str → List Int → Prop} {R : Int → Prop} (hR : ∀ k, R k → 0 ≤ k ∧ k ≤ 3) : ∀ (b : List Tr) (l d : Nat), mades G R b l d → (exs b).length ≤ b.length * most d l
  | [], _, _, _ => by rw [exs]; exact Nat.zero_le _
  | t :: r, l, d, h => by
    rw [mades] at h
    have h1 := Tr.made_ex hR t l d h.1
    have h2 := mades_ex hR r l d h.2
    rw [exs, List.length_append, List.length_cons, Nat.succ_mul]
    omega
end
/-! ### what is executed: numbers -/
theorem flat_len {α : Type} (n : Nat) (xs : List α) : ((List.replicate n xs).flatten).length = n * xs.length := by
  rw [List.length_flatten, List.map_replicate, List.sum_replicate_nat]
mutual
theorem Tr.ex_len : ∀ (t : Tr) (d : Nat), t.wf d → (t.ex.length : Int) = t.len
  | .op w as, _, _ => by rw [Tr.ex, Tr.len]; rfl
  | .loop k b, 0, h => by rw [Tr.wf] at h; exact h.elim
  | .loop k b, d + 1, h => by
    rw [Tr.wf] at h
    have ih := exs_len b d h.2.2.2
    rw [Tr.ex, Tr.len, flat_len, ← ih, Int.natCast_mul]
    congr 1
    omega
theorem exs_len : ∀ (b : List Tr) (d : Nat), wfs b d → ((exs b).length : Int) = lens b
  | [], _, _ => by rw [exs, lens]; rfl
  | t :: r, d, h => by
    rw [wfs] at h
    rw [exs, lens, List.length_append, Int.natCast_add, Tr.ex_len t d h.1, exs_len r d h.2]
end
/-- the word of an instruction -/
def Tr.word : Tr → Str
  | .op w _ => w
  | .loop _ _ => "loop"
theorem count_flat (z : Str) (xs : List Tr) : ∀ n : Nat, (((List.replicate n xs).flatten).map Tr.word).count z = n * (xs.map Tr.word).count z
  | 0 => by simp
  | n + 1 => by rw [List.replicate_succ, List.flatten_cons, List.map_append, List.count_append, count_flat z xs n, Nat.succ_mul, Nat.add_comm]
mutual
theorem Tr.ex_cnt (z : Str) : ∀ (t : Tr) (d : Nat), t.wf d → (((t.ex.map Tr.word).count z : Nat) : Int) = t.cnt z
  | .op w as, _, _ => by
    rw [Tr.ex, Tr.cnt]
    show (([w].count z : Nat) : Int) = _
    rw [List.count_singleton]
    by_cases e : w = z
    · rw [if_pos e, if_pos (beq_iff_eq.mpr e)]
      rfl
    · rw [if_neg e, if_neg (fun h => e (beq_iff_eq.mp h))]
      rfl
  | .loop k b, 0, h => by rw [Tr.wf] at h; exact h.elim
  | .loop k b, d + 1, h => by
    rw [Tr.wf] at h
    have ih := exs_cnt z b d h.2.2.2
    rw [Tr.ex, Tr.cnt, count_flat, ← ih, Int.natCast_mul]
    congr 1
    omega
theorem exs_cnt (z : Str) : ∀ (b : List Tr) (d : Nat), wfs b d → ((((exs b).map Tr.word).count z : Nat) : Int) = cnts z b
  | [], _, _ => by rw [exs, cnts]; rfl
  | t :: r, d, h => by
    rw [wfs] at h
    rw [exs, cnts, List.map_append, List.count_append, Int.natCast_add, Tr.ex_cnt z t d h.1, exs_cnt z r d h.2]
end
/-- all are no loops -/
def Ops (b : List Tr) : Prop := ∀ t ∈ b, ∃ w as, t = .op w as ∧ w ∈ W7
mutual
theorem Tr.ex_ops {G : Str → List Int → Prop} {R : Int → Prop} (hG : ∀ w as, G w as → w ∈ W7) : ∀ (t : Tr) (l d : Nat), t.made G R l d → Ops t.ex
  | .op w as, l, d, h => by
    rw [Tr.made] at h
    rw [Tr.ex]
    intro t m
    exact ⟨w, as, List.mem_singleton.mp m, hG w as h⟩
  | .loop k b, l, 0, h => by rw [Tr.made] at h; exact h.elim
  | .loop k b, l, d + 1, h => by
    rw [Tr.made] at h
    rw [Tr.ex]
    intro t m
    obtain ⟨xs, m1, m2⟩ := List.mem_flatten.mp m
    rw [(List.mem_replicate.mp m1).2] at m2
    exact exs_ops hG b (l / 2) d h.2.2 t m2
theorem exs_ops {G : Str → List Int → Prop} {R : Int → Prop} (hG : ∀ w as, G w as → w ∈ W7) : ∀ (b : List Tr) (l d : Nat), mades G R b l d → Ops (exs b)
  | [], _, _, _ => by rw [exs]; intro t m; cases m
  | t :: r, l, d, h => by
    rw [mades] at h
    rw [exs]
    intro u m
    rcases List.mem_append.mp m with m | m
    · exact Tr.ex_ops hG t l d h.1 u m
    · exact exs_ops hG r l d h.2 u m
end
/-! ### data of instructions -/
def Tr.dat : Tr → PyData
  | .op w as => .tuple (.str w :: as.map .int)
  | .loop _ _ => .none
theorem dp_ints {K : PySem.W.Frag} {H : Hp} : ∀ as : List Int, DpAll K H (as.map V.int) (as.map PyData.int)
  | [] => .nil
  | a :: r => .cons (.int a) (dp_ints r)
theorem depth_ints : ∀ as : List Int, PyData.depthAll (as.map PyData.int) = 0
  | [] => by rw [List.map_nil, PyData.depthAll]
  | a :: r => by rw [List.map_cons, PyData.depthAll, PyData.depth, depth_ints r]; rfl
theorem Ops.dp {K : PySem.W.Frag} {H : Hp} : ∀ {b : List Tr} {vs : List V}, Ops b → TrsAt K H b vs → DpAll K H vs (b.map Tr.dat)
  | [], vs, _, h => by
    rw [TrsAt] at h
    rw [h]
    exact .nil
  | t :: r, vs, o, h => by
    rw [TrsAt] at h
    obtain ⟨v, us, rfl, a, k⟩ := h
    obtain ⟨w, as, rfl, _⟩ := o t List.mem_cons_self
    rw [TrAt] at a
    obtain ⟨x, rfl, sq⟩ := a
    exact .cons (.tup sq (.cons (.str w) (dp_ints as))) (Ops.dp (fun u m => o u (List.mem_cons_of_mem _ m)) k)
theorem Ops.deep : ∀ {b : List Tr}, Ops b → PyData.depthAll (b.map Tr.dat) ≤ 1
  | [], _ => by rw [List.map_nil, PyData.depthAll]; exact Nat.zero_le _
  | t :: r, o => by
    obtain ⟨w, as, rfl, hw⟩ := o t List.mem_cons_self
    have ih := Ops.deep (b := r) (fun u m => o u (List.mem_cons_of_mem _ m))
    rw [List.map_cons, PyData.depthAll, Tr.dat, PyData.depth, PyData.depthAll, PyData.depth, depth_ints]
    omega
theorem inV2 {w a b : Str} : inV (.str w) [.str a, .str b] = true ↔ (w = a ∨ w = b) := by
  show (a == w || (b == w || false)) = true ↔ _
  rw [Bool.or_false, Bool.or_eq_true, beq_iff_eq, beq_iff_eq]
  constructor
  · rintro (h | h)
    · exact .inl h.symm
    · exact .inr h.symm
  · rintro (h | h)
    · exact .inl h.symm
    · exact .inr h.symm
/-! ### promises of the law's own defs -/
mutual
/-- every body within executes a bounded number of steps -/
def Tr.fine : Tr → Prop
  | .op w _ => w ∈ W7
  | .loop _ b => (exs b).length ≤ 100000 ∧ fines b
def fines : List Tr → Prop
  | [] => True
  | t :: r => t.fine ∧ fines r
end
mutual
theorem Tr.fine_ops : ∀ t : Tr, t.fine → Ops t.ex
  | .op w as, h => by
    rw [Tr.fine] at h
    rw [Tr.ex]
    intro t m
    exact ⟨w, as, List.mem_singleton.mp m, h⟩
  | .loop k b, h => by
    rw [Tr.fine] at h
    rw [Tr.ex]
    intro t m
    obtain ⟨xs, m1, m2⟩ := List.mem_flatten.mp m
    rw [(List.mem_replicate.mp m1).2] at m2
    exact fines_ops b h.2 t m2
theorem fines_ops : ∀ b : List Tr, fines b → Ops (exs b)
  | [], _ => by rw [exs]; intro t m; cases m
  | t :: r, h => by
    rw [fines] at h
    rw [exs]
    intro u m
    rcases List.mem_append.mp m with m | m
    · exact Tr.fine_ops t h.1 u m
    · exact fines_ops r h.2 u m
end
theorem most0 : ∀ d, most d 0 = 1
  | 0 => rfl
  | d + 1 => by
    rw [most]
    show max 1 (3 * (0 * _)) = 1
    rw [Nat.zero_mul]
    rfl
mutual
theorem Tr.made_fine {G : Str → List Int → Prop} {R : Int → Prop} (hG : ∀ w as, G w as → w ∈ W7) (hR : ∀ k, R k → 0 ≤ k ∧ k ≤ 3) : ∀ (t : Tr) (l d : Nat), max 1 l * most d l ≤ 100000 → t.made G R l d → t.fine
  | .op w as, l, d, _, h => by
    rw [Tr.made] at h
    rw [Tr.fine]
    exact hG w as h
  | .loop k b, l, 0, _, h => by rw [Tr.made] at h; exact h.elim
  | .loop k b, l, d + 1, hb, h => by
    rw [Tr.made] at h
    rw [Tr.fine]
    have h1 : 3 * (l / 2 * most d (l / 2)) ≤ 100000 := by
      have h0 : most (d + 1) l ≤ 100000 := Nat.le_trans (Nat.le_mul_of_pos_left _ (by omega)) hb
      rw [most] at h0
      exact Nat.le_trans (Nat.le_max_right _ _) h0
    have h2 := mades_ex hR b (l / 2) d h.2.2
    have h3 : b.length * most d (l / 2) ≤ l / 2 * most d (l / 2) := Nat.mul_le_mul_right _ h.2.1
    refine ⟨by omega, mades_fine hG hR b (l / 2) d ?_ h.2.2⟩
    by_cases z : l / 2 = 0
    · rw [z, most0]
      decide
    · rw [show max 1 (l / 2) = l / 2 by omega]
      omega
theorem mades_fine {G : Str → List Int → Prop} {R : Int → Prop} (hG : ∀ w as, G w as → w ∈ W7) (hR : ∀ k, R k → 0 ≤ k ∧ k ≤ 3) : ∀ (b : List Tr) (l d : Nat), max 1 l * most d l ≤ 100000 → mades G R b l d → fines b
  | [], _, _, _, _ => by rw [fines]; trivial
  | t :: r, l, d, hl, h => by
    rw [mades] at h
    rw [fines]
    exact ⟨Tr.made_fine hG hR t l d hl h.1, mades_fine hG hR r l d hl h.2⟩
end
end Lj
set_option Elab.async false
set_option linter.all false
set_option maxRecDepth 100000
namespace Lj
open PySem PySem.Spec PyProof.Rows L2
theorem iteNN {c A B : Prop} [Decidable c] (h : ¬ c) (a : A) : if (!decide c) = true then A else B := by
  rw [decide_eq_false h]
  exact a
/-! ### repr of lists of numbers -/
/-- a number, None, a truth value, shown in a few signs -/
def Leaf (d : PyData) : Prop := d.showable = true ∧ d.hasDict = false ∧ d.depth = 0 ∧ d.shown.length ≤ 1921
theorem leaf_int {i : Int} (h : i.natAbs.log2 < 1920) : Leaf (.int i) := ⟨by rw [PyData.showable]; exact decide_eq_true h, by rw [PyData.hasDict], by rw [PyData.depth], by rw [PyData.shown]; exact int_text_len_1921 h⟩
theorem leaf_none : Leaf .none := ⟨by rw [PyData.showable], by rw [PyData.hasDict], by rw [PyData.depth], by rw [PyData.shown]; decide⟩
theorem leaf_all : ∀ {ds : List PyData}, (∀ d ∈ ds, Leaf d) → PyData.showableAll ds = true ∧ PyData.hasDictAll ds = false ∧ PyData.depthAll ds = 0 ∧ ((PyData.shownAll ds).map (·.length)).sum ≤ 1921 * ds.length ∧ (PyData.shownAll ds).length = ds.length
  | [], _ => ⟨by rw [PyData.showableAll], by rw [PyData.hasDictAll], by rw [PyData.depthAll], by rw [PyData.shownAll]; exact Nat.zero_le _, by rw [PyData.shownAll]; rfl⟩
  | d :: r, h => by
    obtain ⟨a1, a2, a3, a4⟩ := h d List.mem_cons_self
    obtain ⟨b1, b2, b3, b4, b5⟩ := leaf_all (ds := r) fun x m => h x (List.mem_cons_of_mem _ m)
    refine ⟨by rw [PyData.showableAll, a1, b1]; rfl, by rw [PyData.hasDictAll, a2, b2]; rfl, by rw [PyData.depthAll, a3, b3]; rfl, ?_, by rw [PyData.shownAll, List.length_cons, b5, List.length_cons]⟩
    rw [PyData.shownAll, List.map_cons, List.sum_cons, List.length_cons]
    omega
theorem log_of {i : Int} {k : Nat} (h : i.natAbs < 2 ^ k) (k0 : 0 < k) (k1 : k ≤ 1920) : i.natAbs.log2 < 1920 := Nat.lt_of_lt_of_le (PySem.Flt.log2_lt_of k0 h) k1
theorem leaf_ints {ns : List Int} (h : ∀ n ∈ ns, n.natAbs < 2 ^ 1000) : ∀ d ∈ ns.map PyData.int, Leaf d := by
  intro d m
  obtain ⟨n, hn, rfl⟩ := List.mem_map.mp m
  exact leaf_int (log_of (h n hn) (by decide) (by decide))
/-! ### bounds -/
def top : Nat → Int
  | 0 => 1
  | d + 1 => 10 ^ 18 * (1000 * top d)
theorem top_pos : ∀ d, 1 ≤ top d
  | 0 => by decide
  | d + 1 => by
    have := top_pos d
    rw [top]
    omega
mutual
theorem Tr.len_bd : ∀ (t : Tr) (d : Nat), t.wf d → 0 ≤ t.len ∧ t.len ≤ top d
  | .op w as, d, _ => by
    rw [Tr.len]
    exact ⟨by decide, top_pos d⟩
  | .loop k b, 0, h => by rw [Tr.wf] at h; exact h.elim
  | .loop k b, d + 1, h => by
    rw [Tr.wf] at h
    obtain ⟨i0, i1⟩ := lens_bd b d h.2.2.2
    have tp := top_pos d
    have i2 : lens b ≤ 1000 * top d := Int.le_trans i1 (Int.mul_le_mul_of_nonneg_right (by omega) (by omega))
    rw [Tr.len, top]
    exact ⟨Int.mul_nonneg h.1 i0, Int.mul_le_mul h.2.1 i2 i0 (by decide)⟩
theorem lens_bd : ∀ (b : List Tr) (d : Nat), wfs b d → 0 ≤ lens b ∧ lens b ≤ (b.length : Int) * top d
  | [], d, _ => by rw [lens]; exact ⟨by decide, by simp⟩
  | t :: r, d, h => by
    rw [wfs] at h
    obtain ⟨a0, a1⟩ := Tr.len_bd t d h.1
    obtain ⟨b0, b1⟩ := lens_bd r d h.2
    rw [lens, List.length_cons]
    refine ⟨by omega, ?_⟩
    rw [show ((r.length + 1 : Nat) : Int) = (r.length : Int) + 1 from rfl, Int.add_mul, Int.one_mul]
    omega
end
mutual
theorem Tr.cnt_bd (z : Str) : ∀ (t : Tr) (d : Nat), t.wf d → 0 ≤ t.cnt z ∧ t.cnt z ≤ t.len
  | .op w as, d, _ => by
    rw [Tr.len, Tr.cnt]
    split <;> exact ⟨by decide, by decide⟩
  | .loop k b, 0, h => by rw [Tr.wf] at h; exact h.elim
  | .loop k b, d + 1, h => by
    rw [Tr.wf] at h
    obtain ⟨i0, i1⟩ := cnts_bd z b d h.2.2.2
    rw [Tr.len, Tr.cnt]
    exact ⟨Int.mul_nonneg h.1 i0, Int.mul_le_mul_of_nonneg_left i1 h.1⟩
theorem cnts_bd (z : Str) : ∀ (b : List Tr) (d : Nat), wfs b d → 0 ≤ cnts z b ∧ cnts z b ≤ lens b
  | [], d, _ => by rw [lens, cnts]; exact ⟨by decide, by decide⟩
  | t :: r, d, h => by
    rw [wfs] at h
    obtain ⟨a0, a1⟩ := Tr.cnt_bd z t d h.1
    obtain ⟨b0, b1⟩ := cnts_bd z r d h.2
    rw [lens, cnts]
    omega
end
mutual
theorem Tr.inn_bd : ∀ (t : Tr) (d : Nat), t.wf d → 0 ≤ t.inn ∧ t.inn ≤ top d
  | .op w as, d, _ => by
    rw [Tr.inn]
    have := top_pos d
    omega
  | .loop k b, 0, h => by rw [Tr.wf] at h; exact h.elim
  | .loop k b, d + 1, h => by
    rw [Tr.wf] at h
    obtain ⟨i0, i1⟩ := inns_bd b d h.2.2.2
    have tp := top_pos d
    have i2 : inns b ≤ 1000 * top d := Int.le_trans i1 (Int.mul_le_mul_of_nonneg_right (by omega) (by omega))
    rw [Tr.inn, top]
    omega
theorem inns_bd : ∀ (b : List Tr) (d : Nat), wfs b d → 0 ≤ inns b ∧ inns b ≤ (b.length : Int) * top d
  | [], d, _ => by rw [inns]; exact ⟨by decide, by simp⟩
  | t :: r, d, h => by
    rw [wfs] at h
    obtain ⟨a0, a1⟩ := Tr.inn_bd t d h.1
    obtain ⟨b0, b1⟩ := inns_bd r d h.2
    rw [inns, List.length_cons]
    refine ⟨by omega, ?_⟩
    rw [show ((r.length + 1 : Nat) : Int) = (r.length : Int) + 1 from rfl, Int.add_mul, Int.one_mul]
    omega
end
mutual
theorem Tr.dep_bd : ∀ (t : Tr) (d : Nat), t.wf d → t.dep ≤ d
  | .op w as, d, _ => by rw [Tr.dep]; omega
  | .loop k b, 0, h => by rw [Tr.wf] at h; exact h.elim
  | .loop k b, d + 1, h => by
    rw [Tr.wf] at h
    have := deps_bd b d h.2.2.2
    rw [Tr.dep]
    omega
theorem deps_bd : ∀ (b : List Tr) (d : Nat), wfs b d → deps b ≤ d
  | [], d, _ => by rw [deps]; omega
  | t :: r, d, h => by
    rw [wfs] at h
    have h1 := Tr.dep_bd t d h.1
    have h2 := deps_bd r d h.2
    rw [deps]
    split <;> omega
end
/-! ### once, and with great rounds -/
mutual
def Tr.once : Tr → Tr
  | .op w as => .op w as
  | .loop _ b => .loop 1 (onces b)
def onces : List Tr → List Tr
  | [] => []
  | t :: r => t.once :: onces r
end
theorem onces_map : ∀ b : List Tr, onces b = b.map Tr.once
  | [] => by rw [onces]; rfl
  | t :: r => by rw [onces, onces_map r]; rfl
mutual
theorem Tr.made_once {G : Str → List Int → Prop} {R : Int → Prop} : ∀ (t : Tr) (l d : Nat), t.made G R l d → t.once.made G (fun k => k = 1) l d
  | .op w as, l, d, h => by
    rw [Tr.made] at h
    rw [Tr.once, Tr.made]
    exact h
  | .loop k b, l, 0, h => by rw [Tr.made] at h; exact h.elim
  | .loop k b, l, d + 1, h => by
    rw [Tr.made] at h
    rw [Tr.once, Tr.made]
    exact ⟨rfl, by rw [onces_map, List.length_map]; exact h.2.1, mades_once b (l / 2) d h.2.2⟩
theorem mades_once {G : Str → List Int → Prop} {R : Int → Prop} : ∀ (b : List Tr) (l d : Nat), mades G R b l d → mades G (fun k => k = 1) (onces b) l d
  | [], l, d, _ => by rw [onces]; exact mades_nil
  | t :: r, l, d, h => by
    rw [mades] at h
    rw [onces, mades]
    exact ⟨Tr.made_once t l d h.1, mades_once r l d h.2⟩
end
/-- no step of the word z, were each loop executed once -/
def NoW (z : Str) (b : List Tr) : Prop := z ∉ (exs (onces b)).map Tr.word
mutual
theorem Tr.noW (z : Str) : ∀ t : Tr, z ∉ (t.once.ex).map Tr.word → t.cnt z = 0
  | .op w as, h => by
    rw [Tr.once, Tr.ex] at h
    rw [Tr.cnt, if_neg]
    intro e
    exact h (by subst e; exact List.mem_singleton.mpr rfl)
  | .loop k b, h => by
    rw [Tr.once, Tr.ex] at h
    rw [Tr.cnt, noWs z b (by
      intro m
      refine h ?_
      show z ∈ (List.flatten [exs (onces b)]).map Tr.word
      rw [List.flatten_cons, List.flatten_nil, List.append_nil]
      exact m), Int.mul_zero]
theorem noWs (z : Str) : ∀ b : List Tr, NoW z b → cnts z b = 0
  | [], _ => by rw [cnts]
  | t :: r, h => by
    unfold NoW at h
    rw [onces, exs, List.map_append, List.mem_append] at h
    rw [cnts, Tr.noW z t (fun m => h (.inl m)), noWs z r (fun m => h (.inr m))]
    rfl
end
mutual
/-- the same but for rounds, and these only where nothing is read or written -/
def Tr.gr : Tr → Tr → Prop
  | .op w as, t => t = .op w as
  | .loop k b, t => ∃ k' b', t = .loop k' b' ∧ 0 ≤ k' ∧ k' ≤ 10 ^ 18 ∧ grs b b' ∧ (k' = k ∨ (NoW "read" b' ∧ NoW "write" b'))
def grs : List Tr → List Tr → Prop
  | [], g => g = []
  | t :: r, g => ∃ t' r', g = t' :: r' ∧ t.gr t' ∧ grs r r'
end
mutual
theorem Tr.gr_all : ∀ (t t' : Tr), t.gr t' → t'.once = t.once ∧ t'.inn = t.inn ∧ t'.dep = t.dep ∧ (∀ d, t.wf d → t'.wf d) ∧ (∀ G R l d, t.made G R l d → t'.made G (fun k => R k ∨ (0 ≤ k ∧ k ≤ 10 ^ 18)) l d) ∧ ((t.cnt "read" = t'.cnt "read") ∧ (t.cnt "write" = t'.cnt "write"))
  | .op w as, t', h => by
    rw [Tr.gr] at h
    subst h
    refine ⟨rfl, rfl, rfl, fun _ h => h, fun G R l d h => ?_, rfl, rfl⟩
    rw [Tr.made] at h ⊢
    exact h
  | .loop k b, t', h => by
    rw [Tr.gr] at h
    obtain ⟨k', b', rfl, k0, k1, hg, hk⟩ := h
    obtain ⟨e1, e2, e3, e4, e5, e6, e7⟩ := grs_all b b' hg
    refine ⟨by rw [Tr.once, Tr.once, e1], by rw [Tr.inn, Tr.inn, e2, e7.1], by rw [Tr.dep, Tr.dep, e3], fun d h => ?_, fun G R l d h => ?_, ?_⟩
    · cases d with
      | zero => rw [Tr.wf] at h; exact h.elim
      | succ d =>
        rw [Tr.wf] at h ⊢
        exact ⟨k0, k1, by rw [e7.1]; exact h.2.2.1, e4 d h.2.2.2⟩
    · cases d with
      | zero => rw [Tr.made] at h; exact h.elim
      | succ d =>
        rw [Tr.made] at h ⊢
        exact ⟨.inr ⟨k0, k1⟩, by rw [e7.1]; exact h.2.1, e5 G R _ _ h.2.2⟩
    · rw [Tr.cnt, Tr.cnt, Tr.cnt, Tr.cnt]
      rcases hk with rfl | ⟨n1, n2⟩
      · rw [e6.1, e6.2]
        exact ⟨rfl, rfl⟩
      · rw [e6.1, e6.2, noWs _ b' n1, noWs _ b' n2, Int.mul_zero, Int.mul_zero]
        exact ⟨rfl, rfl⟩
theorem grs_all : ∀ (b g : List Tr), grs b g → onces g = onces b ∧ inns g = inns b ∧ deps g = deps b ∧ (∀ d, wfs b d → wfs g d) ∧ (∀ G R l d, mades G R b l d → mades G (fun k => R k ∨ (0 ≤ k ∧ k ≤ 10 ^ 18)) g l d) ∧ ((cnts "read" b = cnts "read" g) ∧ (cnts "write" b = cnts "write" g)) ∧ (g.length = b.length ∧ True)
  | [], g, h => by
    rw [grs] at h
    subst h
    exact ⟨rfl, rfl, rfl, fun _ h => h, fun _ _ _ _ _ => mades_nil, ⟨rfl, rfl⟩, rfl, trivial⟩
  | t :: r, g, h => by
    rw [grs] at h
    obtain ⟨t', r', rfl, h1, h2⟩ := h
    obtain ⟨a1, a2, a3, a4, a5, a6⟩ := Tr.gr_all t t' h1
    obtain ⟨e1, e2, e3, e4, e5, e6, e7⟩ := grs_all r r' h2
    refine ⟨by rw [onces, onces, a1, e1], by rw [inns, inns, a2, e2], by rw [deps, deps, a3, e3], fun d h => ?_, fun G R l d h => ?_, ⟨by rw [cnts, cnts, a6.1, e6.1], by rw [cnts, cnts, a6.2, e6.2]⟩, by rw [List.length_cons, List.length_cons, e7.1], trivial⟩
    · rw [wfs] at h ⊢
      exact ⟨a4 d h.1, e4 d h.2⟩
    · rw [mades] at h ⊢
      exact ⟨a5 G R l d h.1, e5 G R l d h.2⟩
end
end Lj
namespace Lj
mutual
theorem Tr.wf_up : ∀ (t : Tr) (n : Nat), t.wf n → t.wf (n + 1)
  | .op w as, n, h => by
    rw [Tr.wf] at h ⊢
    exact h
  | .loop k b, 0, h => by rw [Tr.wf] at h; exact h.elim
  | .loop k b, n + 1, h => by
    rw [Tr.wf] at h ⊢
    exact ⟨h.1, h.2.1, h.2.2.1, wfs_up' b n h.2.2.2⟩
theorem wfs_up' : ∀ (b : List Tr) (n : Nat), wfs b n → wfs b (n + 1)
  | [], n, _ => by rw [wfs]; trivial
  | t :: r, n, h => by
    rw [wfs] at h ⊢
    exact ⟨Tr.wf_up t n h.1, wfs_up' r n h.2⟩
end
end Lj
set_option Elab.async false
set_option linter.all false
set_option maxRecDepth 100000
namespace Lj
open PySem PySem.Spec PyProof.Rows L2
/-! ### urns that count what is drawn -/
def Ur (c : Nat) (H : Hp) (p : Addr) : Prop := ∃ u v k : Int, H p = some (.lst [.int u, .int v, .int k]) ∧ 0 ≤ u ∧ 0 ≤ v ∧ v < 2305843009213693951 ∧ 0 ≤ k ∧ k ≤ c
theorem Ur.but {c : Nat} {p q : Addr} {H H' : Hp} (b : But q H H') (n : p ≠ q) (h : Ur c H p) : Ur c H' p := by
  obtain ⟨u, v, k, e, r⟩ := h
  exact ⟨u, v, k, b _ _ n e, r⟩
theorem Ur.same {c : Nat} {p : Addr} {H H' : Hp} (b : Same H H') (h : Ur c H p) : Ur c H' p := by
  obtain ⟨u, v, k, e, r⟩ := h
  exact ⟨u, v, k, b _ _ e, r⟩
theorem Ur.ne {c : Nat} {p q : Addr} {H : Hp} (h : Ur c H p) (e : H q = none) : q ≠ p := by
  obtain ⟨u, v, k, e2, _⟩ := h
  exact (ne_of_none e2 e).symm
theorem Ur.up {c d : Nat} {p : Addr} {H : Hp} (h : Ur c H p) (l : c ≤ d) : Ur d H p := by
  obtain ⟨u, v, k, e, a, b, x, y, z⟩ := h
  exact ⟨u, v, k, e, a, b, x, y, by omega⟩
theorem Ur.at {c : Nat} {p : Addr} {H : Hp} (h : Ur c H p) : ∃ o, H p = some o := by
  obtain ⟨_, _, _, e, _⟩ := h
  exact ⟨_, e⟩
theorem Ur.free {c : Nat} {p q : Addr} {H H' : Hp} (h : Ur c H' p) (b : But p H H') (e : H' q = none) : H q = none := by
  cases x : H q with
  | none => rfl
  | some o =>
    have y := b q o (h.ne e) x
    rw [e] at y
    cases y
theorem Ur.kt {c : Nat} {p : Addr} {H H' : Hp} (u : Ur c H p) (b : But p H H') : Kt H H' := by
  obtain ⟨x, y, z, e, _⟩ := u
  exact Kt.but b e
def spPot (K : PySem.W.Frag) : Sp := fun vs H Q _ => ∃ (a : Addr) (ns : List Int) (k : Int), vs = [.ref a, .int k] ∧ SqL K H a (ns.map V.int) ∧ 0 ≤ k ∧ k ≤ 1000 ∧
  ∀ H' p, Same H H' → H p = none → Ur 0 H' p → Q (.ref p) H'
theorem big_lt {n : Int} (h0 : 0 ≤ n) (h : n ≤ 10 ^ 40) : n.natAbs < 2 ^ 1000 := by
  have z : (10 ^ 40 : Nat) < 2 ^ 1000 := by decide +kernel
  omega
theorem ind_nn {z : Int} (h : 0 ≤ z) (b : Bool) : 0 ≤ z * (if b then 1 else 0) := by
  cases b with
  | true => show 0 ≤ z * 1; omega
  | false => show 0 ≤ z * 0; omega
/-- a block, with a stronger word for what it asks -/
theorem PSs.weak {X : Cx} {st : List Stmt} {t t' : TS} (h : PSs X st t) (i : ∀ D σ H, t' D σ H → t D σ H) : PSs X st t' := ⟨fun pins s σ H D I hw => h.run pins s σ H D I (i D σ H hw)⟩
end Lj
set_option Elab.async false
set_option linter.all false
set_option maxRecDepth 100000
set_option maxHeartbeats 4000000
set_option pp.maxSteps 700
namespace Lj
open PySem PySem.Spec PyProof.Rows L2
/-! ### set(xs), xs a list of ints -/
section
variable {P : Program} {w : World} {A : Around} {E : Value → Shared → Prop} {s : Shared} {l : Addr} {xs : Array Value} {ns : List Int}
end
end Lj
set_option Elab.async false
set_option linter.all false
set_option maxRecDepth 100000
set_option maxHeartbeats 1000000
namespace Lj
open PySem PySem.Spec PyProof.Rows L2
/-! ### zip of any two things that can be walked: each a feed -/
/-- an iterator at i with n things to give, as long as its source stands -/
structure Feed (i : Addr) (n : Nat) (f : Nat → Value → Prop) (St : Nat → Heap → Prop) (Src : Heap → Prop) : Prop where
  give : ∀ {prog : Program} {w : World} {A : Around} {E : Value → Shared → Prop} {s : Shared} {k : Nat} {Q : Value → Shared → Prop}, k < n → St k s.heap → Src s.heap → (∀ x h' tk, f k x → St (k + 1) h' → Heap.SameBut i s.heap h' → Q x { s with heap := h', toks := tk }) →
    wpAny (model prog w) A (Builtin.SmallTypes.nextOf (.ref i)) Q E s
  over : ∀ {prog : Program} {w : World} {A : Around} {E : Value → Shared → Prop} {s : Shared} {Q : Value → Shared → Prop}, A.handled = none → St n s.heap → Src s.heap → (∀ h' e tk, Heap.ExtBut i s.heap h' → (∃ o, h'.get? e = some o ∧ o.cls = .type "StopIteration") → E (.ref e) { s with heap := h', toks := tk }) →
    wpAny (model prog w) A (Builtin.SmallTypes.nextOf (.ref i)) Q E s
  stay : ∀ {k : Nat} {h h' : Heap}, St k h → (∀ o, h.get? i = some o → h'.get? i = some o) → St k h'
  obj : ∀ {k : Nat} {h : Heap}, St k h → ∃ o vs, h.get? i = some o ∧ o.data = .fields vs
theorem feed_list {i l : Addr} {its : Array Value} : Feed i its.size (fun k x => its[k]? = some x) (fun k h => h.IsListIter i l k) (fun h => h.IsList l its) where
  give := fun {_ _ _ _ s k _} hk st src q => wpAny_nextOf_list_item st src (Array.getElem?_eq_getElem hk) fun h' a b => q _ h' s.toks (Array.getElem?_eq_getElem hk) a b
  over := fun {_ _ _ _ s _} hh st src q => wpAny_nextOf_list_end hh st src (by simp) fun h' e a b => q h' e s.toks a b
  stay := fun ⟨o, e, r⟩ k => ⟨o, k o e, r⟩
  obj := fun ⟨o, e, _, d⟩ => ⟨o, _, e, d⟩
theorem feed_tup {i l : Addr} {its : Array Value} : Feed i its.size (fun k x => its[k]? = some x) (fun k h => h.IsTupleIter i l k) (fun h => h.IsTuple l its) where
  give := fun {_ _ _ _ s k _} hk st src q => RZ.nextOf_tuple_item st src (Array.getElem?_eq_getElem hk) fun h' a b => q _ h' s.toks (Array.getElem?_eq_getElem hk) a b
  over := fun {_ _ _ _ s _} hh st src q => RZ.nextOf_tuple_end hh st src (by simp) fun h' e a b => q h' e s.toks a b
  stay := fun ⟨o, e, r⟩ k => ⟨o, k o e, r⟩
  obj := fun ⟨o, e, _, d⟩ => ⟨o, _, e, d⟩
/-- the five objects of a zip are apart -/
structure Five (z I O a b : Addr) : Prop where
  Iz : I ≠ z
  Oz : O ≠ z
  az : a ≠ z
  bz : b ≠ z
  IO : I ≠ O
  Ia : I ≠ a
  Ib : I ≠ b
  Oa : O ≠ a
  Ob : O ≠ b
  ab : a ≠ b
/-- what a step of the zip leaves alone -/
def Beside (z O a b : Addr) (h h' : Heap) : Prop := ∀ c o, c ≠ z → c ≠ O → c ≠ a → c ≠ b → h.get? c = some o → h'.get? c = some o
section
variable {prog : Program} {w : World} {A : Around} {E : Value → Shared → Prop} {s : Shared} {z I O a b : Addr} {m n k : Nat} {f g : Nat → Value → Prop} {S1 S2 : Nat → Heap → Prop} {R1 R2 : Heap → Prop} {p q : Value}
theorem zf_give {Q : Value → Shared → Prop} (D : Five z I O a b) (F1 : Feed a m f S1 R1) (F2 : Feed b n g S2 R2) (r1 : ∀ h h', R1 h → Beside z O a b h h' → R1 h') (r2 : ∀ h h', R2 h → Beside z O a b h h' → R2 h')
    (zz : IsZip s.heap z I O .none) (zI : IsPair s.heap I (.ref a) (.ref b)) (zO : IsPair s.heap O p q) (s1 : S1 k s.heap) (s2 : S2 k s.heap) (q1 : R1 s.heap) (q2 : R2 s.heap) (km : k < m) (kn : k < n)
    (hQ : ∀ x y h' tk, f k x → g k y → IsZip h' z I O (rawInt s.heap.objs.size) → IsPair h' O x y → S1 (k + 1) h' → S2 (k + 1) h' → IsPair h' s.heap.objs.size x y → h'.objs.size = s.heap.objs.size + 1 → Beside z O a b s.heap h' → Q (.ref s.heap.objs.size) { s with heap := h', toks := tk }) :
    wpAny (model prog w) A (Builtin.«zip.__next__» ⟨[.ref z], []⟩) (fun fin s' => ∃ v, fin = .done (.ret v) ∧ Q v s') E s := by
  show wpAny _ _ (field (.ref z) 2 >>= _) _ _ _; refine wpAny_bind (wpAny_field zz rfl (x := .bool false) rfl ?_)
  show wpAny _ _ (field (.ref z) 3 >>= _) _ _ _; refine wpAny_bind (wpAny_field zz rfl (x := .ref I) rfl ?_)
  refine wpAny_bind (wpAny_seqItems zI rfl ?_)
  show wpAny _ _ (Builtin.SmallTypes.ownedTupleIsFree (.ref z) >>= _) _ _ _; refine wpAny_bind ?_
  unfold Builtin.SmallTypes.ownedTupleIsFree; refine wpAny_bind (wpAny_field zz rfl (x := .none) rfl (wpAny_pure ?_))
  simp only [if_true]; refine wpAny_bind (wpAny_rule (wpAny_bind (wpAny_field zz rfl (x := .ref O) rfl ?_)))
  refine wpAny_bind (wpAny_setField_rec zz (by simp) fun h1 z1 k1 => ?_)
  replace z1 : IsZip h1 z I O .ellipsis := z1
  refine wpAny_bind ?_
  simp only [List.zipIdx_cons, List.zipIdx_nil, List.forIn_cons, List.forIn_nil]; refine wpAny_bind (wpAny_bind (wpAny_onRaise ?_))
  show wpAny _ _ (Builtin.SmallTypes.nextOf (.ref a) >>= _) _ _ _
  have e1 : ∀ c o, c ≠ z → s.heap.get? c = some o → h1.get? c = some o := fun c o n e => k1.extBut _ _ n e
  refine wpAny_bind (F1.give km (F1.stay s1 fun o => e1 a o D.az) (r1 _ _ q1 fun c o n1 _ _ _ => e1 c o n1) fun x h2 t2 fx s12 k2 => wpAny_pure ?_)
  have e2 : ∀ c o, c ≠ a → h1.get? c = some o → h2.get? c = some o := fun c o n e => k2.extBut _ _ n e
  have O2 : IsPair h2 O p q := e2 _ _ D.Oa (e1 _ _ D.Oz zO)
  refine wpAny_bind (wpAny_seqItems O2 rfl (wpAny_bind (wpAny_updateSeq_pair O2 fun h3 O3 k3 => ?_)))
  replace O3 : IsPair h3 O x q := O3
  have e3 : ∀ c o, c ≠ O → h2.get? c = some o → h3.get? c = some o := fun c o n e => k3.extBut _ _ n e
  refine wpAny_bind (wpAny_letGo (wpAny_pure (wpAny_bind (wpAny_bind (wpAny_onRaise ?_)))))
  show wpAny _ _ (Builtin.SmallTypes.nextOf (.ref b) >>= _) _ _ _
  refine wpAny_bind (F2.give kn (F2.stay s2 fun o e => e3 b o D.Ob.symm (e2 b o D.ab.symm (e1 b o D.bz e))) (r2 _ _ q2 fun c o n1 n2 n3 _ e => e3 c o n2 (e2 c o n3 (e1 c o n1 e))) fun y h4 t4 gy s24 k4 => wpAny_pure ?_)
  have e4 : ∀ c o, c ≠ b → h3.get? c = some o → h4.get? c = some o := fun c o n e => k4.extBut _ _ n e
  have O4 : IsPair h4 O x q := e4 _ _ D.Ob O3
  refine wpAny_bind (wpAny_seqItems O4 rfl (wpAny_bind (wpAny_updateSeq_pair O4 fun h5 O5 k5 => ?_)))
  replace O5 : IsPair h5 O x y := O5
  have e5 : ∀ c o, c ≠ O → h4.get? c = some o → h5.get? c = some o := fun c o n e => k5.extBut _ _ n e
  refine wpAny_bind (wpAny_letGo (wpAny_pure (wpAny_pure (wpAny_bind (wpAny_seqItems O5 rfl (wpAny_bind (wpAny_newTuple ?_)))))))
  have sz : h5.objs.size = s.heap.objs.size := by rw [k5.1, k4.1, k3.1, k2.1, k1.1]
  have z5 : IsZip h5 z I O .ellipsis := e5 _ _ D.Oz.symm (e4 _ _ D.bz.symm (e3 _ _ D.Oz.symm (e2 _ _ D.az.symm z1)))
  have b5 : Beside z O a b s.heap h5 := fun c o n1 n2 n3 n4 e => e5 c o n2 (e4 c o n4 (e3 c o n2 (e2 c o n3 (e1 c o n1 e))))
  have s15 : S1 (k + 1) h5 := F1.stay s12 fun o e => e5 a o D.Oa.symm (e4 a o D.ab (e3 a o D.Oa.symm e))
  have s25 : S2 (k + 1) h5 := F2.stay s24 fun o e => e5 b o D.Ob.symm e
  have zl : z < h5.objs.size := Heap.lt_size z5
  show wpAny _ _ (Builtin.SmallTypes.ownedTupleHandOut (.ref z) (.ref h5.objs.size) >>= _) _ _ _
  refine wpAny_bind ?_; unfold Builtin.SmallTypes.ownedTupleHandOut
  refine wpAny_bind (wpAny_setField_rec (show IsZip (h5.push { cls := .type "tuple", data := .seq #[x, y] }) z I O .ellipsis from Heap.get?_push_of_some _ z5) (by simp) fun h7 z7 k7 => ?_)
  replace z7 : IsZip h7 z I O (rawInt h5.objs.size) := z7
  refine wpAny_setField_rec z7 (by simp) fun h8 z8 k8 => ?_
  replace z8 : IsZip h8 z I O (rawInt h5.objs.size) := z8
  have e8 : ∀ c o, c ≠ z → h5.get? c = some o → h8.get? c = some o := fun c o n e => k8.extBut _ _ n (k7.extBut _ _ n (Heap.get?_push_of_some _ e))
  have T8 : IsPair h8 h5.objs.size x y := k8.extBut _ _ (Nat.ne_of_gt zl) (k7.extBut _ _ (Nat.ne_of_gt zl) (Heap.get?_push_size _ rfl))
  have y8 : h8.objs.size = h5.objs.size + 1 := by rw [k8.1, k7.1, Heap.size_push]
  rw [sz] at z8 T8 y8
  refine wpAny_pure ⟨_, rfl, ?_⟩
  show Q (.ref h5.objs.size) _
  rw [sz]
  exact hQ x y h8 t4 fx gy z8 (e8 _ _ D.Oz O5) (F1.stay s15 fun o => e8 a o D.az) (F2.stay s25 fun o => e8 b o D.bz) T8 y8 fun c o n1 n2 n3 n4 e => e8 c o n1 (b5 c o n1 n2 n3 n4 e)
theorem zf_over {Q : Fin → Shared → Prop} (hh : A.handled = none) (D : Five z I O a b) (F1 : Feed a m f S1 R1) (F2 : Feed b n g S2 R2) (r1 : ∀ h h', R1 h → Beside z O a b h h' → R1 h') (r2 : ∀ h h', R2 h → Beside z O a b h h' → R2 h')
    (zz : IsZip s.heap z I O .none) (zI : IsPair s.heap I (.ref a) (.ref b)) (zO : IsPair s.heap O p q) (s1 : S1 k s.heap) (s2 : S2 k s.heap) (q1 : R1 s.heap) (q2 : R2 s.heap) (he : k = m ∨ (k < m ∧ k = n))
    (hE : ∀ h' e tk, Beside z O a b s.heap h' → (∃ o, h'.get? e = some o ∧ o.cls = .type "StopIteration") → E (.ref e) { s with heap := h', toks := tk }) :
    wpAny (model prog w) A (Builtin.«zip.__next__» ⟨[.ref z], []⟩) Q E s := by
  show wpAny _ _ (field (.ref z) 2 >>= _) _ _ _; refine wpAny_bind (wpAny_field zz rfl (x := .bool false) rfl ?_)
  show wpAny _ _ (field (.ref z) 3 >>= _) _ _ _; refine wpAny_bind (wpAny_field zz rfl (x := .ref I) rfl ?_)
  refine wpAny_bind (wpAny_seqItems zI rfl ?_)
  show wpAny _ _ (Builtin.SmallTypes.ownedTupleIsFree (.ref z) >>= _) _ _ _; refine wpAny_bind ?_
  unfold Builtin.SmallTypes.ownedTupleIsFree; refine wpAny_bind (wpAny_field zz rfl (x := .none) rfl (wpAny_pure ?_))
  simp only [if_true]; refine wpAny_bind (wpAny_rule (wpAny_bind (wpAny_field zz rfl (x := .ref O) rfl ?_)))
  refine wpAny_bind (wpAny_setField_rec zz (by simp) fun h1 z1 k1 => ?_)
  replace z1 : IsZip h1 z I O .ellipsis := z1
  refine wpAny_bind ?_
  simp only [List.zipIdx_cons, List.zipIdx_nil, List.forIn_cons, List.forIn_nil]; refine wpAny_bind (wpAny_bind (wpAny_onRaise ?_))
  show wpAny _ _ (Builtin.SmallTypes.nextOf (.ref a) >>= _) _ _ _
  have e1 : ∀ c o, c ≠ z → s.heap.get? c = some o → h1.get? c = some o := fun c o n e => k1.extBut _ _ n e
  have s11 := F1.stay s1 fun o => e1 a o D.az
  have q11 := r1 _ _ q1 fun c o n1 _ _ _ => e1 c o n1
  have fin : ∀ {h2 : Heap} {t2 : Nat} {e : Addr}, IsZip h2 z I O .ellipsis → Beside z O a b s.heap h2 → (∃ o, h2.get? e = some o ∧ o.cls = .type "StopIteration") → wpAny (model prog w) A (setField (.ref z) 0 .none) (fun _ s' => E (.ref e) s') E { s with heap := h2, toks := t2 } := fun {h2 t2 e} z2 b2 ⟨oe, g, c⟩ => by
    have ne : e ≠ z := fun y => by subst y; rw [z2] at g; cases g; simp at c
    exact wpAny_setField_rec z2 (by simp) fun h3 _ k3 => hE h3 e t2 (fun c o n1 n2 n3 n4 y => k3.extBut _ _ n1 (b2 c o n1 n2 n3 n4 y)) ⟨oe, k3.extBut _ _ ne g, c⟩
  rcases he with rfl | ⟨km, rfl⟩
  · refine wpAny_bind (F1.over hh s11 q11 fun h2 e t2 k2 ex => ?_)
    exact fin (k2 _ _ D.az.symm z1) (fun c o n1 _ n3 _ y => k2 _ _ n3 (e1 c o n1 y)) ex
  · refine wpAny_bind (F1.give km s11 q11 fun x h2 t2 fx s12 k2 => wpAny_pure ?_)
    have e2 : ∀ c o, c ≠ a → h1.get? c = some o → h2.get? c = some o := fun c o n e => k2.extBut _ _ n e
    have O2 : IsPair h2 O p q := e2 _ _ D.Oa (e1 _ _ D.Oz zO)
    refine wpAny_bind (wpAny_seqItems O2 rfl (wpAny_bind (wpAny_updateSeq_pair O2 fun h3 O3 k3 => ?_)))
    have e3 : ∀ c o, c ≠ O → h2.get? c = some o → h3.get? c = some o := fun c o n e => k3.extBut _ _ n e
    refine wpAny_bind (wpAny_letGo (wpAny_pure (wpAny_bind (wpAny_bind (wpAny_onRaise ?_)))))
    show wpAny _ _ (Builtin.SmallTypes.nextOf (.ref b) >>= _) _ _ _
    refine wpAny_bind (F2.over hh (F2.stay s2 fun o e => e3 b o D.Ob.symm (e2 b o D.ab.symm (e1 b o D.bz e))) (r2 _ _ q2 fun c o n1 n2 n3 _ e => e3 c o n2 (e2 c o n3 (e1 c o n1 e))) fun h4 e t4 k4 ex => ?_)
    exact fin (k4 _ _ D.bz.symm (e3 _ _ D.Oz.symm (e2 _ _ D.az.symm z1))) (fun c o n1 n2 n3 n4 y => k4 _ _ n4 (e3 c o n2 (e2 c o n3 (e1 c o n1 y)))) ex
theorem zf_next {Q : Option Value → Shared → Prop} (D : Five z I O a b) (F1 : Feed a m f S1 R1) (F2 : Feed b n g S2 R2) (r1 : ∀ h h', R1 h → Beside z O a b h h' → R1 h') (r2 : ∀ h h', R2 h → Beside z O a b h h' → R2 h')
    (zz : IsZip s.heap z I O .none) (zI : IsPair s.heap I (.ref a) (.ref b)) (zO : IsPair s.heap O p q) (s1 : S1 k s.heap) (s2 : S2 k s.heap) (q1 : R1 s.heap) (q2 : R2 s.heap) (km : k < m) (kn : k < n)
    (hQ : ∀ x y h' tk, f k x → g k y → IsZip h' z I O (rawInt s.heap.objs.size) → IsPair h' O x y → S1 (k + 1) h' → S2 (k + 1) h' → IsPair h' s.heap.objs.size x y → h'.objs.size = s.heap.objs.size + 1 → Beside z O a b s.heap h' → Q (some (.ref s.heap.objs.size)) { s with heap := h', toks := tk }) :
    wpAny (model prog w) A (pyNext (.ref z)) Q E s := by
  have ty : s.TypeIs (.ref z) "zip" := ⟨_, zz, rfl⟩
  unfold pyNext; refine wpAny_bind (wpAny_attempt (wpAny_callSpecial?_slot (name := Str.ofString "__next__") ty F.slot_zip_next (wpAny_call_entry F.slot_zip_next ty F.entry_zip_next (zf_give D F1 F2 r1 r2 zz zI zO s1 s2 q1 q2 km kn fun x y h' tk b1 b2 b3 b4 b5 b6 b7 b8 b9 => ?_) (F.args_zip_next_1 _))))
  exact wpAny_pure (hQ x y h' tk b1 b2 b3 b4 b5 b6 b7 b8 b9)
theorem zf_done {Q : Option Value → Shared → Prop} (hh : A.handled = none) (D : Five z I O a b) (F1 : Feed a m f S1 R1) (F2 : Feed b n g S2 R2) (r1 : ∀ h h', R1 h → Beside z O a b h h' → R1 h') (r2 : ∀ h h', R2 h → Beside z O a b h h' → R2 h')
    (zz : IsZip s.heap z I O .none) (zI : IsPair s.heap I (.ref a) (.ref b)) (zO : IsPair s.heap O p q) (s1 : S1 k s.heap) (s2 : S2 k s.heap) (q1 : R1 s.heap) (q2 : R2 s.heap) (he : k = m ∨ (k < m ∧ k = n))
    (hQ : ∀ h' tk, Beside z O a b s.heap h' → Q none { s with heap := h', toks := tk }) : wpAny (model prog w) A (pyNext (.ref z)) Q E s := by
  have ty : s.TypeIs (.ref z) "zip" := ⟨_, zz, rfl⟩
  unfold pyNext; refine wpAny_bind (wpAny_attempt (wpAny_callSpecial?_slot (name := Str.ofString "__next__") ty F.slot_zip_next (wpAny_call_entry F.slot_zip_next ty F.entry_zip_next (zf_over hh D F1 F2 r1 r2 zz zI zO s1 s2 q1 q2 he fun h' e tk k ⟨o, g, c⟩ => ?_) (F.args_zip_next_1 _))))
  exact wpAny_bind (wpAny_isInstance (T := "StopIteration") (b := true) ⟨o, g, c⟩ isSubtype_stop (wpAny_pure (hQ _ _ k)))
end
end Lj
set_option Elab.async false
set_option linter.all false
set_option maxRecDepth 100000
set_option maxHeartbeats 1000000
namespace Lj
open PySem PySem.Spec PyProof.Rows L2
/-- something that can be walked: St tells its iterator, G that it stands, ls where, xs what it gives -/
structure Sr (P : Program) (w : World) (K : PySem.W.Frag) (St : Addr → Nat → Heap → Prop) (G : Hp → Prop) (ls : List Addr) (xs : List V) : Prop where
  feed : ∀ {X : Cx} {pins : List (Addr × Obj)} {σ : L2.St} {H : Hp} {s : Shared}, X.prog = P → X.w = w → X.K = K → Inv X pins σ H s → G H → ∀ i : Addr, ∃ (f : Nat → Value → Prop) (Src : Heap → Prop), Feed i xs.length f (St i) Src ∧ Src s.heap ∧
    (∀ h h', Src h → (∀ l ∈ ls, ∀ o, h.get? l = some o → h'.get? l = some o) → Src h') ∧ ∀ k u, f k u → ∃ x, xs[k]? = some x ∧ RelV x u
  stay : ∀ {i : Addr} {k : Nat} {h h' : Heap}, St i k h → (∀ o, h.get? i = some o → h'.get? i = some o) → St i k h'
  obj : ∀ {i : Addr} {k : Nat} {h : Heap}, St i k h → ∃ o vs, h.get? i = some o ∧ o.data = .fields vs
theorem sr_list {P : Program} {w : World} {K : PySem.W.Frag} {a : Addr} {xs : List V} : Sr P w K (fun i k h => h.IsListIter i a k) (fun H => SqL K H a xs) [a] xs where
  feed := fun {X pins σ H s} e1 e2 e3 I g i => by
    subst e3
    obtain ⟨its, rv, pl, _⟩ := I.list g
    refine ⟨fun k x => its.toArray[k]? = some x, fun h => h.IsList a its.toArray, ?_, pl.isList, fun h h' q k => ?_, fun k u e => ?_⟩
    · have z := feed_list (i := i) (l := a) (its := its.toArray)
      rw [List.size_toArray, ← rv.length] at z
      exact z
    · obtain ⟨o, ho, r⟩ := q
      exact ⟨o, k a List.mem_cons_self o ho, r⟩
    · have e : its.toArray[k]? = some u := e
      rw [List.getElem?_toArray] at e
      have hk : k < xs.length := by rw [rv.length]; exact (List.getElem?_eq_some_iff.mp e).1
      obtain ⟨u', hu, ru⟩ := rv.get (List.getElem?_eq_getElem hk)
      rw [e] at hu
      cases hu
      exact ⟨_, List.getElem?_eq_getElem hk, ru⟩
  stay := fun ⟨o, e, r⟩ k => ⟨o, k o e, r⟩
  obj := fun ⟨o, e, _, d⟩ => ⟨o, _, e, d⟩
theorem sr_tup {P : Program} {w : World} {K : PySem.W.Frag} {a : Addr} {xs : List V} : Sr P w K (fun i k h => h.IsTupleIter i a k) (fun H => SqT K H a xs) [a] xs where
  feed := fun {X pins σ H s} e1 e2 e3 I g i => by
    subst e3
    obtain ⟨its, rv, pl, _⟩ := I.tuple g
    refine ⟨fun k x => its.toArray[k]? = some x, fun h => h.IsTuple a its.toArray, ?_, pl, fun h h' q k => ?_, fun k u e => ?_⟩
    · have z := feed_tup (i := i) (l := a) (its := its.toArray)
      rw [List.size_toArray, ← rv.length] at z
      exact z
    · obtain ⟨o, ho, r⟩ := q
      exact ⟨o, k a List.mem_cons_self o ho, r⟩
    · have e : its.toArray[k]? = some u := e
      rw [List.getElem?_toArray] at e
      have hk : k < xs.length := by rw [rv.length]; exact (List.getElem?_eq_some_iff.mp e).1
      obtain ⟨u', hu, ru⟩ := rv.get (List.getElem?_eq_getElem hk)
      rw [e] at hu
      cases hu
      exact ⟨_, List.getElem?_eq_getElem hk, ru⟩
  stay := fun ⟨o, e, r⟩ k => ⟨o, k o e, r⟩
  obj := fun ⟨o, e, _, d⟩ => ⟨o, _, e, d⟩
/-- pairs of the things of two sources, as long as both stand -/
def ItF (n : Nat) (G : Hp → Prop) (xs ys : List V) : It :=
  ⟨fun i H => i < n ∧ G H, fun i H v H' => ∃ T x y, v = .ref T ∧ H T = none ∧ H' = upd H T (.tup [x, y]) ∧ xs[i]? = some x ∧ ys[i]? = some y, fun i H => i = n ∧ G H⟩
theorem walk_F {n : Nat} {G : Hp → Prop} {xs ys : List V} : Walk (ItF n G xs ys) n G (YPair (fun i => xs[i]?) (fun i => ys[i]?)) :=
  ⟨fun i _ hi q => ⟨hi, q⟩, fun _ q => ⟨rfl, q⟩, fun i H v H' _ q y => y⟩
def zipTn (S1 S2 : Addr → Nat → Heap → Prop) (z I O a b : Addr) : Nat → Heap → Prop := fun i h => IsZip h z I O .none ∧ IsPair h I (.ref a) (.ref b) ∧ (∃ x y, IsPair h O x y) ∧ S1 a i h ∧ S2 b i h
theorem turn_F {P : Program} {w : World} {K : PySem.W.Frag} {elts : List Expr} {kk : Nat} {tpos : Pos} {z I O a b : Addr} {S1 S2 : Addr → Nat → Heap → Prop} {G1 G2 : Hp → Prop} {l1 l2 : List Addr} {xs ys : List V} (D : Five z I O a b) (F1 : Sr P w K S1 G1 l1 xs) (F2 : Sr P w K S2 G2 l2 ys)
    (n1 : ∀ l ∈ l1, l ≠ z ∧ l ≠ O ∧ l ≠ a ∧ l ≠ b) (n2 : ∀ l ∈ l2, l ≠ z ∧ l ≠ O ∧ l ≠ a ∧ l ≠ b) : Turn P w K (.Tuple elts kk tpos) (ItF (min xs.length ys.length) (fun H => G1 H ∧ G2 H) xs ys) [z, I, O, a, b] z (zipTn S1 S2 z I O a b) where
  mem := List.mem_cons_self
  obj := fun i h st c hc => by
    obtain ⟨q1, q2, ⟨x, y, q3⟩, q4, q5⟩ := st
    obtain ⟨o4, v4, e4, d4⟩ := F1.obj q4
    obtain ⟨o5, v5, e5, d5⟩ := F2.obj q5
    simp only [List.mem_cons, List.not_mem_nil, or_false] at hc
    rcases hc with rfl | rfl | rfl | rfl | rfl
    · exact ⟨_, q1, fun v e => nomatch e⟩
    · exact ⟨_, q2, fun v e => nomatch e⟩
    · exact ⟨_, q3, fun v e => nomatch e⟩
    · exact ⟨o4, e4, fun v e => by rw [d4] at e; cases e⟩
    · exact ⟨o5, e5, fun v e => by rw [d5] at e; cases e⟩
  keep := fun i h h' st k => by
    obtain ⟨q1, q2, ⟨x, y, q3⟩, q4, q5⟩ := st
    exact ⟨k z (by simp) _ q1, k I (by simp) _ q2, ⟨x, y, k O (by simp) _ q3⟩, F1.stay q4 fun o e => k a (by simp) o e, F2.stay q5 fun o e => k b (by simp) o e⟩
  item := by
    intro X hP hw hK hc i pins s σ H E Iv hf st hg
    obtain ⟨q1, q2, ⟨x0, y0, q3⟩, q4, q5⟩ := st
    obtain ⟨hi, g1, g2⟩ := hg
    obtain ⟨f, S, fd, sr, ss, fr⟩ := F1.feed hP hw hK Iv g1 a
    obtain ⟨g, S', fd', sr', ss', fr'⟩ := F2.feed hP hw hK Iv g2 b
    subst hP hw hK
    have zl : z < s.heap.objs.size := Heap.lt_size q1
    have st1 : ∀ h h', S h → Beside z O a b h h' → S h' := fun h h' q k => ss h h' q fun l m o e => k l o (n1 l m).1 (n1 l m).2.1 (n1 l m).2.2.1 (n1 l m).2.2.2 e
    have st2 : ∀ h h', S' h → Beside z O a b h h' → S' h' := fun h h' q k => ss' h h' q fun l m o e => k l o (n2 l m).1 (n2 l m).2.1 (n2 l m).2.2.1 (n2 l m).2.2.2 e
    refine zf_next D fd fd' st1 st2 q1 q2 q3 q4 q5 sr sr' (by omega) (by omega) fun u v h' tk fu gv z' O' s1' s2' T sz bes => ?_
    obtain ⟨x, hx, ru⟩ := fr i u fu
    obtain ⟨y, hy, rv⟩ := fr' i v gv
    refine ⟨_, rfl, wpAny_letOwnedTupleGo_zip (s := { s with heap := h', toks := tk }) z' fun h2 z2 sb => ?_⟩
    have T2 : h2.get? s.heap.objs.size = some { cls := .type "tuple", data := .seq #[u, v] } := (sb.2 _ (Nat.ne_of_gt zl)).trans T
    have new : ObjOk X.prog X.w (upd H s.heap.objs.size (.tup [x, y])) h2 s.heap.objs.size (.tup [x, y]) := ⟨by show 2 ≤ sizeLine; decide, [u, v], .cons ru (.cons rv .nil), ⟨_, T2, rfl, _, rfl⟩⟩
    have I1 : Inv X pins σ (upd H s.heap.objs.size (.tup [x, y])) { s with heap := h2, toks := tk } := Iv.turnedNew (t' := tk) (ch := [z, I, O, a, b]) (fun c o hb e => by
      simp only [List.mem_cons, List.not_mem_nil, or_false, not_or] at hb
      exact (sb.2 c hb.1).trans (bes c o hb.1 hb.2.2.1 hb.2.2.2.1 hb.2.2.2.2 e)) hf (Nat.le_refl _) new
    refine ⟨.ref s.heap.objs.size, _, I1, rfl, ⟨_, x, y, rfl, Iv.hok.fresh (Nat.le_refl _), rfl, hx, hy⟩, ⟨z2, ?_, ⟨u, v, ?_⟩, ?_, ?_⟩, fun c hcm => ?_⟩
    · exact (sb.2 _ D.Iz).trans (bes _ _ D.Iz D.IO D.Ia D.Ib q2)
    · exact (sb.2 _ D.Oz).trans O'
    · exact F1.stay s1' fun o e => (sb.2 _ D.az).trans e
    · exact F2.stay s2' fun o e => (sb.2 _ D.bz).trans e
    · have lt : c < s.heap.objs.size := by
        obtain ⟨o4, _, e4, _⟩ := F1.obj q4
        obtain ⟨o5, _, e5, _⟩ := F2.obj q5
        simp only [List.mem_cons, List.not_mem_nil, or_false] at hcm
        rcases hcm with rfl | rfl | rfl | rfl | rfl
        · exact zl
        · exact Heap.lt_size q2
        · exact Heap.lt_size q3
        · exact Heap.lt_size e4
        · exact Heap.lt_size e5
      rw [upd_ne (Nat.ne_of_lt lt)]
      exact (hf c hcm).1
  done := by
    intro X hP hw hK hc i pins s σ H E Iv hf st hg
    obtain ⟨q1, q2, ⟨x0, y0, q3⟩, q4, q5⟩ := st
    obtain ⟨hi, g1, g2⟩ := hg
    obtain ⟨f, S, fd, sr, ss, fr⟩ := F1.feed hP hw hK Iv g1 a
    obtain ⟨g, S', fd', sr', ss', fr'⟩ := F2.feed hP hw hK Iv g2 b
    subst hP hw hK
    have st1 : ∀ h h', S h → Beside z O a b h h' → S h' := fun h h' q k => ss h h' q fun l m o e => k l o (n1 l m).1 (n1 l m).2.1 (n1 l m).2.2.1 (n1 l m).2.2.2 e
    have st2 : ∀ h h', S' h → Beside z O a b h h' → S' h' := fun h h' q k => ss' h h' q fun l m o e => k l o (n2 l m).1 (n2 l m).2.1 (n2 l m).2.2.1 (n2 l m).2.2.2 e
    refine zf_done (Iv.ok.hd hc) D fd fd' st1 st2 q1 q2 q3 q4 q5 sr sr' (by omega) fun h' tk bes => ⟨rfl, Iv.turnedL (t' := tk) (ch := [z, I, O, a, b]) (fun c o hb e => ?_) hf⟩
    simp only [List.mem_cons, List.not_mem_nil, or_false, not_or] at hb
    exact bes c o hb.1 hb.2.2.1 hb.2.2.2.1 hb.2.2.2.2 e
  self := fun A i s Q E st h => wpAny_pyIter_zip st.1 h
/-! ### zip(list, tuple): its making -/
abbrev zh (h : Heap) (p q : Obj) (a b : Nat) : Heap := (((((h.push p).push q).push { cls := .type "tuple", data := .seq #[.ref a, .ref b] }).push { cls := .type "tuple", data := .seq #[.none, .none] })).push { cls := .type "zip", data := .fields #[.none, .bool false, .bool false, .ref (a + 2), .ref (a + 3)] }
abbrev oLi (l : Addr) : Obj := { cls := .type "list_iterator", data := .fields #[.ref l, .int 0 0] }
abbrev oTi (l : Addr) : Obj := { cls := .type "tuple_iterator", data := .fields #[.ref l, .int 0 0] }
theorem five_new (n : Nat) : Five (n + 4) (n + 2) (n + 3) n (n + 1) := by
  have z : ∀ i j : Nat, i ≠ j → n + i ≠ n + j := fun i j h e => h (Nat.add_left_cancel e)
  exact ⟨z 2 4 (by decide), z 3 4 (by decide), z 0 4 (by decide), z 1 4 (by decide), z 2 3 (by decide), z 2 0 (by decide), z 2 1 (by decide), z 3 0 (by decide), z 3 1 (by decide), z 0 1 (by decide)⟩
theorem zh_sz (h : Heap) (p q : Obj) (hp : p.isFreed = false := by rfl) (hq : q.isFreed = false := by rfl) : (zh h p q h.objs.size (h.objs.size + 1)).get? h.objs.size = some p ∧ (zh h p q h.objs.size (h.objs.size + 1)).get? (h.objs.size + 1) = some q ∧
    IsPair (zh h p q h.objs.size (h.objs.size + 1)) (h.objs.size + 2) (.ref h.objs.size) (.ref (h.objs.size + 1)) ∧ IsPair (zh h p q h.objs.size (h.objs.size + 1)) (h.objs.size + 3) .none .none ∧ IsZip (zh h p q h.objs.size (h.objs.size + 1)) (h.objs.size + 4) (h.objs.size + 2) (h.objs.size + 3) .none := by
  have z1 : (h.push p).objs.size = h.objs.size + 1 := Heap.size_push ..
  have z2 : ((h.push p).push q).objs.size = h.objs.size + 2 := by rw [Heap.size_push, z1]
  have z3 : (((h.push p).push q).push { cls := .type "tuple", data := .seq #[.ref h.objs.size, .ref (h.objs.size + 1)] }).objs.size = h.objs.size + 3 := by rw [Heap.size_push, z2]
  have z4 : ((((h.push p).push q).push { cls := .type "tuple", data := .seq #[.ref h.objs.size, .ref (h.objs.size + 1)] }).push { cls := .type "tuple", data := .seq #[.none, .none] }).objs.size = h.objs.size + 4 := by rw [Heap.size_push, z3]
  have up : ∀ {h : Heap} {c : Addr} {o : Obj} (x : Obj), h.get? c = some o → (h.push x).get? c = some o := fun x e => Heap.get?_push_of_some x e
  refine ⟨up _ (up _ (up _ (up _ (Heap.get?_push_size h hp)))), ?_, ?_, ?_, ?_⟩
  · have e := Heap.get?_push_size (h.push p) hq
    rw [z1] at e
    exact up _ (up _ (up _ e))
  · have e := Heap.get?_push_size ((h.push p).push q) (o := { cls := .type "tuple", data := .seq #[.ref h.objs.size, .ref (h.objs.size + 1)] }) rfl
    rw [z2] at e
    exact up _ (up _ e)
  · have e := Heap.get?_push_size (((h.push p).push q).push { cls := .type "tuple", data := .seq #[.ref h.objs.size, .ref (h.objs.size + 1)] }) (o := { cls := .type "tuple", data := .seq #[.none, .none] }) rfl
    rw [z3] at e
    exact up _ e
  · have e := Heap.get?_push_size ((((h.push p).push q).push { cls := .type "tuple", data := .seq #[.ref h.objs.size, .ref (h.objs.size + 1)] }).push { cls := .type "tuple", data := .seq #[.none, .none] }) (o := { cls := .type "zip", data := .fields #[.none, .bool false, .bool false, .ref (h.objs.size + 2), .ref (h.objs.size + 3)] }) rfl
    rw [z4] at e
    exact e
end Lj
set_option Elab.async false
set_option linter.all false
set_option maxRecDepth 100000
namespace Lj
open PySem PySem.Spec PyProof.Rows L2
/-! ### the last step that assigns a register -/
/-- the registers that an instruction assigns -/
def asgs (w : Str) (as : List Int) : List Int := if w = "swap" then as else if w = "write" then [] else as.take 1
def Tr.asg (x : Int) : Tr → Bool
  | .op w as => decide (x ∈ asgs w as)
  | .loop _ _ => false
/-- a prefix of a repeated list -/
theorem take_flat {α : Type} (xs : List α) (n k r : Nat) (hk : k < n) (hr : r ≤ xs.length) : ((List.replicate n xs).flatten).take (k * xs.length + r) = (List.replicate k xs).flatten ++ xs.take r := by
  obtain ⟨m, rfl⟩ : ∃ m, n = k + (m + 1) := ⟨n - k - 1, by omega⟩
  rw [← List.replicate_append_replicate, List.flatten_append, ← flat_len k xs, List.take_length_add_append, List.replicate_succ, List.flatten_cons, List.take_append_of_le_length hr]
mutual
/-- each instruction but loops has arguments -/
def Tr.hasArgs : Tr → Prop
  | .op _ as => as ≠ []
  | .loop _ b => haveArgs b
def haveArgs : List Tr → Prop
  | [] => True
  | t :: r => t.hasArgs ∧ haveArgs r
end
theorem GoodOp.args {p n : Int} {w : Str} {as : List Int} (h : GoodOp p n w as) : as ≠ [] := by
  rcases h with ⟨_, _, _, rfl, _⟩ | ⟨_, _, rfl, _⟩ | ⟨_, _, _, rfl, _⟩ | ⟨_, _, _, _, rfl, _⟩ <;> intro z <;> cases z
mutual
theorem Tr.made_args {G : Str → List Int → Prop} {R : Int → Prop} (hG : ∀ w as, G w as → as ≠ []) : ∀ (t : Tr) (l d : Nat), t.made G R l d → t.hasArgs
  | .op w as, l, d, h => by
    rw [Tr.made] at h
    rw [Tr.hasArgs]
    exact hG w as h
  | .loop k b, l, 0, h => by rw [Tr.made] at h; exact h.elim
  | .loop k b, l, d + 1, h => by
    rw [Tr.made] at h
    rw [Tr.hasArgs]
    exact mades_args hG b (l / 2) d h.2.2
theorem mades_args {G : Str → List Int → Prop} {R : Int → Prop} (hG : ∀ w as, G w as → as ≠ []) : ∀ (b : List Tr) (l d : Nat), mades G R b l d → haveArgs b
  | [], _, _, _ => by rw [haveArgs]; trivial
  | t :: r, l, d, h => by
    rw [mades] at h
    rw [haveArgs]
    exact ⟨Tr.made_args hG t l d h.1, mades_args hG r l d h.2⟩
end
/-! ### slices of tuples -/
theorem cut_tail (x : V) (xs : List V) : cutV (x :: xs) (some 1) none = xs := by
  unfold cutV
  rw [show HT.sIx (x :: xs).length 0 (some 1) = min 1 (x :: xs).length from HT.sIx_nat _ _ 1, HT.sIx_none, List.length_cons, show min 1 (xs.length + 1) = 1 by omega]
  show (xs.take (xs.length + 1 - 1)) = xs
  rw [Nat.add_sub_cancel]
  exact List.take_length
/-! ### promises -/
end Lj
namespace Lj
open PySem PySem.Spec PyProof.Rows L2
end Lj
set_option Elab.async false
set_option linter.all false
set_option maxRecDepth 100000
namespace Lj
open PySem PySem.Spec PyProof.Rows L2
/-! ### trees shown -/
mutual
def Tr.datT : Tr → PyData
  | .op w as => .tuple (.str w :: as.map .int)
  | .loop k b => .tuple [.str "loop", .int k, .tuple (datTs b)]
def datTs : List Tr → List PyData
  | [] => []
  | t :: r => t.datT :: datTs r
end
mutual
theorem Tr.dp {K : PySem.W.Frag} {H : Hp} : ∀ (t : Tr) (v : V), TrAt K H t v → Dp K H v t.datT
  | .op w as, v, h => by
    rw [TrAt] at h
    obtain ⟨a, rfl, sq⟩ := h
    rw [Tr.datT]
    exact .tup sq (.cons (.str w) (dp_ints as))
  | .loop k b, v, h => by
    rw [TrAt] at h
    obtain ⟨a, c, vs, rfl, sq, sq2, r⟩ := h
    rw [Tr.datT]
    exact .tup sq (.cons (.str _) (.cons (.int k) (.cons (.tup sq2 (trs_dp b vs r)) .nil)))
theorem trs_dp {K : PySem.W.Frag} {H : Hp} : ∀ (b : List Tr) (vs : List V), TrsAt K H b vs → DpAll K H vs (datTs b)
  | [], vs, h => by
    rw [TrsAt] at h
    rw [h, datTs]
    exact .nil
  | t :: r, vs, h => by
    rw [TrsAt] at h
    obtain ⟨v, us, rfl, a, k⟩ := h
    rw [datTs]
    exact .cons (Tr.dp t v a) (trs_dp r us k)
end
def sb : Nat → Nat
  | 0 => 20000
  | d + 1 => 20000 + 8 * (sb d + 2)
theorem sb_ge : ∀ d, 20000 ≤ sb d
  | 0 => Nat.le_refl _
  | d + 1 => by rw [sb]; omega
/-- short arguments -/
def Short (w : Str) (as : List Int) : Prop := w ∈ W7 ∧ as.length ≤ 3 ∧ ∀ a ∈ as, a.natAbs < 2 ^ 1000
theorem W7_shown {w : Str} (h : w ∈ W7) : (PyData.shown (.str w)).length ≤ 20 := by
  have z : (W7.all fun w => decide ((PyData.shown (.str w)).length ≤ 20)) = true := by decide +kernel
  exact of_decide_eq_true (List.all_eq_true.mp z w h)
mutual
theorem Tr.made_show {G : Str → List Int → Prop} {R : Int → Prop} (hG : ∀ w as, G w as → Short w as) (hR : ∀ k, R k → k.natAbs < 2 ^ 1000) : ∀ (t : Tr) (l d : Nat), l ≤ 8 → t.made G R l d →
    t.datT.showable = true ∧ t.datT.hasDict = false ∧ t.datT.depth ≤ 2 * d + 1 ∧ t.datT.shown.length ≤ sb d
  | .op w as, l, d, hl, h => by
    rw [Tr.made] at h
    obtain ⟨h1, h2, h3⟩ := hG w as h
    obtain ⟨a1, a2, a3, a4, a5⟩ := leaf_all (leaf_ints h3)
    rw [Tr.datT]
    refine ⟨by rw [PyData.showable, PyData.showableAll, PyData.showable, a1]; rfl, by rw [PyData.hasDict, PyData.hasDictAll, PyData.hasDict, a2]; rfl, by rw [PyData.depth, PyData.depthAll, PyData.depth, a3]; exact Nat.succ_le_succ (Nat.zero_le _), ?_⟩
    rw [PyData.shown, PyData.shownAll]
    have z := PySem.tupleText_len_le (PyData.shown (.str w) :: PyData.shownAll (as.map PyData.int))
    rw [List.map_cons, List.sum_cons, List.length_cons, a5] at z
    have z2 := W7_shown h1
    have z3 := sb_ge d
    rw [List.length_map] at z a4
    omega
  | .loop k b, l, 0, _, h => by rw [Tr.made] at h; exact h.elim
  | .loop k b, l, d + 1, hl, h => by
    rw [Tr.made] at h
    obtain ⟨b1, b2, b3, b4, b5⟩ := mades_show hG hR b (l / 2) d (by omega) h.2.2
    obtain ⟨i1, i2, i3, i4⟩ := leaf_int (log_of (hR k h.1) (by decide) (by decide))
    have lp : (PyData.shown (.str "loop")).length ≤ 20 := by decide +kernel
    have y := PySem.tupleText_len_le (PyData.shownAll (datTs b))
    have hb := h.2.1
    rw [Tr.datT]
    refine ⟨by rw [PyData.showable, PyData.showableAll, PyData.showable, PyData.showableAll, i1, PyData.showableAll, PyData.showable, b1, PyData.showableAll]; rfl,
      by rw [PyData.hasDict, PyData.hasDictAll, PyData.hasDict, PyData.hasDictAll, i2, PyData.hasDictAll, PyData.hasDict, b2, PyData.hasDictAll]; rfl,
      by rw [PyData.depth, PyData.depthAll, PyData.depth, PyData.depthAll, i3, PyData.depthAll, PyData.depth, PyData.depthAll]; omega, ?_⟩
    rw [PyData.shown, PyData.shownAll, PyData.shownAll, PyData.shownAll, PyData.shownAll]
    have z := PySem.tupleText_len_le [PyData.shown (.str "loop"), PyData.shown (.int k), PyData.shown (.tuple (datTs b))]
    have ez : (PyData.shown (.tuple (datTs b))) = tupleText (PyData.shownAll (datTs b)) := by rw [PyData.shown]
    rw [List.map_cons, List.map_cons, List.map_cons, List.map_nil, List.sum_cons, List.sum_cons, List.sum_cons, List.sum_nil, ez] at z
    rw [show ([PyData.shown (.str "loop"), PyData.shown (.int k), tupleText (PyData.shownAll (datTs b))] : List Str).length = 3 from rfl] at z
    rw [ez, sb]
    have m1 : b.length * sb d ≤ 4 * sb d := Nat.mul_le_mul_right _ (by omega)
    have := sb_ge d
    omega
theorem mades_show {G : Str → List Int → Prop} {R : Int → Prop} (hG : ∀ w as, G w as → Short w as) (hR : ∀ k, R k → k.natAbs < 2 ^ 1000) : ∀ (b : List Tr) (l d : Nat), l ≤ 8 → mades G R b l d →
    PyData.showableAll (datTs b) = true ∧ PyData.hasDictAll (datTs b) = false ∧ PyData.depthAll (datTs b) ≤ 2 * d + 1 ∧ ((PyData.shownAll (datTs b)).map (·.length)).sum ≤ b.length * sb d ∧ (PyData.shownAll (datTs b)).length = b.length
  | [], l, d, _, _ => by
    rw [datTs]
    exact ⟨by rw [PyData.showableAll], by rw [PyData.hasDictAll], by rw [PyData.depthAll]; exact Nat.zero_le _, by rw [PyData.shownAll]; exact Nat.zero_le _, by rw [PyData.shownAll]; rfl⟩
  | t :: r, l, d, hl, h => by
    rw [mades] at h
    obtain ⟨a1, a2, a3, a4⟩ := Tr.made_show hG hR t l d hl h.1
    obtain ⟨b1, b2, b3, b4, b5⟩ := mades_show hG hR r l d hl h.2
    rw [datTs]
    refine ⟨by rw [PyData.showableAll, a1, b1]; rfl, by rw [PyData.hasDictAll, a2, b2]; rfl, by rw [PyData.depthAll]; omega, ?_, by rw [PyData.shownAll, List.length_cons, b5, List.length_cons]⟩
    rw [PyData.shownAll, List.map_cons, List.sum_cons, List.length_cons, Nat.succ_mul]
    omega
end
/-! ### reads among what is executed -/
def rc (E : List Tr) : Int := (((E.map Tr.word).count ("read" : Str) : Nat) : Int)
theorem rc_append (a b : List Tr) : rc (a ++ b) = rc a + rc b := by
  unfold rc
  rw [List.map_append, List.count_append, Int.natCast_add]
theorem rc_nn (E : List Tr) : 0 ≤ rc E := Int.natCast_nonneg _
end Lj
set_option Elab.async false
set_option linter.all false
set_option maxRecDepth 100000
namespace Lj
open PySem PySem.Spec PyProof.Rows L2
theorem wfs_take {b : List Tr} {n i : Nat} (h : wfs b n) : wfs (b.take i) n := wfs_all fun t m => by
  obtain ⟨j, hj, e⟩ := List.mem_iff_getElem.mp (List.mem_of_mem_take m)
  exact wfs_get (i := j) h (by rw [List.getElem?_eq_getElem hj, e])
theorem flat_takeL {b : List Tr} {i : Nat} {t : Tr} (e : b[i]? = some t) : exs (b.take (i + 1)) = exs (b.take i) ++ t.ex := by
  rw [exs_map, exs_map, map_next e, List.flatten_append, List.flatten_cons, List.flatten_nil, List.append_nil]
theorem lens_nextL {b : List Tr} {i : Nat} {t : Tr} (e : b[i]? = some t) : lens (b.take (i + 1)) = lens (b.take i) + t.len := by rw [lens_map, lens_map, sum_next e]
theorem exs_split (b : List Tr) (i : Nat) : exs b = exs (b.take i) ++ exs (b.drop i) := by rw [exs_map, exs_map, exs_map, ← List.flatten_append, ← List.map_append, List.take_append_drop]
theorem lens_split (b : List Tr) (i : Nat) : lens b = lens (b.take i) + lens (b.drop i) := by rw [lens_map, lens_map, lens_map, ← List.sum_append, ← List.map_append, List.take_append_drop]
theorem wfs_drop {b : List Tr} {n i : Nat} (h : wfs b n) : wfs (b.drop i) n := wfs_all fun t m => by
  obtain ⟨j, hj, e⟩ := List.mem_iff_getElem.mp (List.mem_of_mem_drop m)
  exact wfs_get (i := j) h (by rw [List.getElem?_eq_getElem hj, e])
/-! ### paths -/
/-- ps leads into b to the instruction t, the step st of b is the step r of t -/
inductive PT : List Tr → List Int → Tr → Int → Int → Prop
  | here {b : List Tr} {i : Nat} {t : Tr} {r : Int} (e : b[i]? = some t) : PT b [(i : Int)] t r (lens (b.take i) + r)
  | into {b b' : List Tr} {i : Nat} {k turn r st : Int} {t : Tr} {ps : List Int} (e : b[i]? = some (.loop k b')) (h0 : 0 ≤ turn) (h1 : turn < k) (p : PT b' ps t r st) : PT b ((i : Int) :: turn :: ps) t r (lens (b.take i) + (turn * lens b' + st))
theorem PT.deeper {b : List Tr} {ps : List Int} {t : Tr} {r st : Int} (p : PT b ps t r st) : ∀ {k turn r' : Int} {b' : List Tr} {j : Nat} {t' : Tr}, t = .loop k b' → 0 ≤ turn → turn < k → b'[j]? = some t' → r = turn * lens b' + (lens (b'.take j) + r') → PT b (ps ++ [turn, (j : Int)]) t' r' st := by
  induction p with
  | here e =>
    intro k turn r' b' j t' et h0 h1 ej er
    subst et er
    exact .into e h0 h1 (.here ej)
  | into e h0 h1 p ih =>
    intro k turn r' b' j t' et g0 g1 ej er
    exact .into e h0 h1 (ih et g0 g1 ej er)
theorem get_flat {α : Type} (E : List α) (k t r : Nat) (ht : t < k) (hr : r < E.length) : ((List.replicate k E).flatten)[t * E.length + r]? = E[r]? := by
  have h1 := take_flat E k t (r + 1) ht hr
  have h2 : (((List.replicate k E).flatten).take (t * E.length + (r + 1)))[t * E.length + r]? = ((List.replicate t E).flatten ++ E.take (r + 1))[t * E.length + r]? := by rw [h1]
  rw [List.getElem?_take_of_lt (by omega), List.getElem?_append_right (by rw [flat_len]; omega), flat_len, Nat.add_sub_cancel_left, List.getElem?_take_of_lt (by omega)] at h2
  exact h2
theorem PT.step {b : List Tr} {ps : List Int} {t : Tr} {r st : Int} (p : PT b ps t r st) : ∀ {n : Nat}, wfs b n → 0 ≤ r → r < t.len → 0 ≤ st ∧ st < lens b ∧ (exs b)[st.toNat]? = t.ex[r.toNat]? := by
  induction p with
  | @here b i t r e =>
    intro n h r0 r1
    have el := exs_len (b.take i) n (wfs_take h)
    have tl := Tr.ex_len t n (wfs_get h e)
    have l0 := (lens_bd _ n (wfs_take (i := i) h)).1
    have l2 := lens_nextL e
    have l3 := lens_split b (i + 1)
    have l4 := (lens_bd _ n (wfs_drop (i := i + 1) h)).1
    refine ⟨by omega, by omega, ?_⟩
    rw [exs_split b (i + 1), flat_takeL e, List.append_assoc, List.getElem?_append_right (by omega), List.getElem?_append_left (by omega)]
    congr 1
    omega
  | @into b b' i k turn r st t ps e h0 h1 p ih =>
    intro n h r0 r1
    have wt := wfs_get h e
    cases n with
    | zero => rw [Tr.wf] at wt; exact wt.elim
    | succ n =>
      have wt2 := wt
      rw [Tr.wf] at wt
      obtain ⟨s0, s1, s2⟩ := ih wt.2.2.2 r0 r1
      have el := exs_len (b.take i) _ (wfs_take h)
      have eb := exs_len b' n wt.2.2.2
      have tl := Tr.ex_len (.loop k b') _ wt2
      have l0 := (lens_bd _ _ (wfs_take (i := i) h)).1
      have l2 := lens_nextL e
      have l3 := lens_split b (i + 1)
      have l4 := (lens_bd _ _ (wfs_drop (i := i + 1) h)).1
      rw [Tr.len] at l2 tl
      have m0 : 0 ≤ turn * lens b' := Int.mul_nonneg h0 (by omega)
      have m1 : turn * lens b' + lens b' ≤ k * lens b' := by
        have := Int.mul_le_mul_of_nonneg_right (show turn + 1 ≤ k by omega) (show 0 ≤ lens b' by omega)
        rw [Int.add_mul, Int.one_mul] at this
        exact this
      refine ⟨by omega, by omega, ?_⟩
      rw [exs_split b (i + 1), flat_takeL e, List.append_assoc, List.getElem?_append_right (by omega), List.getElem?_append_left (by omega), ← s2, Tr.ex]
      have ix : (lens (b.take i) + (turn * lens b' + st)).toNat - (exs (b.take i)).length = turn.toNat * (exs b').length + st.toNat := by
        have : ((turn.toNat * (exs b').length : Nat) : Int) = turn * lens b' := by
          rw [Int.natCast_mul, eb]
          congr 1
          omega
        omega
      rw [ix]
      exact get_flat (exs b') k.toNat turn.toNat st.toNat (by omega) (by omega)
/-! ### slices of bodies -/
theorem TrsAt.take {K : PySem.W.Frag} {H : Hp} : ∀ {b : List Tr} {vs : List V} (i : Nat), TrsAt K H b vs → TrsAt K H (b.take i) (vs.take i)
  | b, vs, 0, _ => TrsAt.nil
  | [], vs, i + 1, h => by
    rw [TrsAt] at h
    subst h
    exact TrsAt.nil
  | t :: r, vs, i + 1, h => by
    rw [TrsAt] at h
    obtain ⟨v, us, rfl, a, k⟩ := h
    rw [List.take_succ_cons, List.take_succ_cons, TrsAt]
    exact ⟨v, _, rfl, a, TrsAt.take i k⟩
theorem TrsAt.drop {K : PySem.W.Frag} {H : Hp} : ∀ {b : List Tr} {vs : List V} (i : Nat), TrsAt K H b vs → TrsAt K H (b.drop i) (vs.drop i)
  | b, vs, 0, h => h
  | [], vs, i + 1, h => by
    rw [TrsAt] at h
    subst h
    exact TrsAt.nil
  | t :: r, vs, i + 1, h => by
    rw [TrsAt] at h
    obtain ⟨v, us, rfl, a, k⟩ := h
    exact TrsAt.drop i k
theorem cut_whole (xs : List V) (lo hi : Option Int) (h : HT.sIx xs.length 0 lo = 0 ∧ HT.sIx xs.length xs.length hi = xs.length) : cutV xs lo hi = xs := by
  unfold cutV
  rw [h.1, h.2, List.drop_zero, Nat.sub_zero, List.take_length]
/-! ### whether a register is assigned at all -/
mutual
def Tr.nam (x : Int) : Tr → Bool
  | .op w as => decide (x ∈ asgs w as)
  | .loop k b => decide (0 < k) && nams x b
def nams (x : Int) : List Tr → Bool
  | [] => false
  | t :: r => t.nam x || nams x r
end
mutual
theorem Tr.nam_iff (x : Int) : ∀ (t : Tr) (n : Nat), t.wf n → (t.nam x = false ↔ ∀ u ∈ t.ex, u.asg x = false)
  | .op w as, n, _ => by
    rw [Tr.nam, Tr.ex]
    constructor
    · intro h u m
      rw [List.mem_singleton.mp m]
      exact h
    · intro h
      exact h _ (List.mem_singleton.mpr rfl)
  | .loop k b, 0, h => by rw [Tr.wf] at h; exact h.elim
  | .loop k b, n + 1, h => by
    rw [Tr.wf] at h
    have ih := nams_iff x b n h.2.2.2
    rw [Tr.nam, Tr.ex]
    constructor
    · intro z u m
      obtain ⟨xs, m1, m2⟩ := List.mem_flatten.mp m
      obtain ⟨m3, m4⟩ := List.mem_replicate.mp m1
      rw [m4] at m2
      rw [decide_eq_true (show 0 < k by omega), Bool.true_and] at z
      exact ih.mp z u m2
    · intro z
      by_cases g : 0 < k
      · rw [decide_eq_true g, Bool.true_and]
        refine ih.mpr fun u m => z u (List.mem_flatten.mpr ⟨exs b, List.mem_replicate.mpr ⟨by omega, rfl⟩, m⟩)
      · rw [decide_eq_false g, Bool.false_and]
theorem nams_iff (x : Int) : ∀ (b : List Tr) (n : Nat), wfs b n → (nams x b = false ↔ ∀ u ∈ exs b, u.asg x = false)
  | [], n, _ => by
    rw [nams, exs]
    constructor
    · intro _ u m
      cases m
    · intro _
      rfl
  | t :: r, n, h => by
    rw [wfs] at h
    have h1 := Tr.nam_iff x t n h.1
    have h2 := nams_iff x r n h.2
    rw [nams, exs, Bool.or_eq_false_iff, h1, h2]
    constructor
    · rintro ⟨a, b⟩ u m
      rcases List.mem_append.mp m with m | m
      · exact a u m
      · exact b u m
    · intro z
      exact ⟨fun u m => z u (List.mem_append.mpr (.inl m)), fun u m => z u (List.mem_append.mpr (.inr m))⟩
end
end Lj
namespace Lj
open PySem PySem.Spec PyProof.Rows L2
mutual
theorem Tr.args_in : ∀ (t : Tr) (n : Nat), t.wf n → t.hasArgs → ∀ u ∈ t.ex, u.hasArgs
  | .op w as, n, _, h => by
    rw [Tr.ex]
    intro u m
    rw [List.mem_singleton.mp m]
    exact h
  | .loop k b, 0, h, _ => by rw [Tr.wf] at h; exact h.elim
  | .loop k b, n + 1, h, a => by
    rw [Tr.wf] at h
    rw [Tr.hasArgs] at a
    rw [Tr.ex]
    intro u m
    obtain ⟨xs, m1, m2⟩ := List.mem_flatten.mp m
    rw [(List.mem_replicate.mp m1).2] at m2
    exact exs_args b n h.2.2.2 a u m2
theorem exs_args : ∀ (b : List Tr) (n : Nat), wfs b n → haveArgs b → ∀ u ∈ exs b, u.hasArgs
  | [], _, _, _ => by rw [exs]; intro u m; cases m
  | t :: r, n, h, a => by
    rw [wfs] at h
    rw [haveArgs] at a
    rw [exs]
    intro u m
    rcases List.mem_append.mp m with m | m
    · exact Tr.args_in t n h.1 a.1 u m
    · exact exs_args r n h.2 a.2 u m
end
theorem args_in {b : List Tr} {n j : Nat} {z : Str} {as : List Int} (a : haveArgs b) (h : wfs b n) (e : (exs b)[j]? = some (.op z as)) : as ≠ [] := by
  have := exs_args b n h a _ (List.mem_of_getElem? e)
  rw [Tr.hasArgs] at this
  exact this
end Lj
set_option Elab.async false
set_option linter.all false
set_option maxRecDepth 100000
namespace Lj
open PySem PySem.Spec PyProof.Rows L2
section
variable {X : Cx} {K : PySem.W.Frag}
end
mutual
/-- G of each instruction but loops -/
def Tr.allG (G : Str → List Int → Prop) : Tr → Prop
  | .op w as => G w as
  | .loop _ b => allGs G b
def allGs (G : Str → List Int → Prop) : List Tr → Prop
  | [] => True
  | t :: r => t.allG G ∧ allGs G r
end
theorem allGs_get {G : Str → List Int → Prop} : ∀ {b : List Tr} {i : Nat} {t : Tr}, allGs G b → b[i]? = some t → t.allG G
  | [], _, _, _, e => by simp at e
  | t :: r, 0, u, h, e => by
    cases e
    rw [allGs] at h
    exact h.1
  | t :: r, i + 1, u, h, e => by
    rw [allGs] at h
    exact allGs_get (i := i) h.2 e
mutual
theorem Tr.made_allG {G : Str → List Int → Prop} {R : Int → Prop} : ∀ (t : Tr) (l d : Nat), t.made G R l d → t.allG G
  | .op w as, l, d, h => by
    rw [Tr.made] at h
    rw [Tr.allG]
    exact h
  | .loop k b, l, 0, h => by rw [Tr.made] at h; exact h.elim
  | .loop k b, l, d + 1, h => by
    rw [Tr.made] at h
    rw [Tr.allG]
    exact mades_allG b (l / 2) d h.2.2
theorem mades_allG {G : Str → List Int → Prop} {R : Int → Prop} : ∀ (b : List Tr) (l d : Nat), mades G R b l d → allGs G b
  | [], _, _, _ => by rw [allGs]; trivial
  | t :: r, l, d, h => by
    rw [mades] at h
    rw [allGs]
    exact ⟨Tr.made_allG t l d h.1, mades_allG r l d h.2⟩
end
theorem PT.good {G : Str → List Int → Prop} {b : List Tr} {ps : List Int} {t : Tr} {r st : Int} (p : PT b ps t r st) : allGs G b → t.allG G := by
  induction p with
  | here e => exact fun h => allGs_get h e
  | into e h0 h1 p ih =>
    intro h
    have := allGs_get h e
    rw [Tr.allG] at this
    exact ih this
theorem idx_unique {b : List Tr} {n i j : Nat} {t u : Tr} {x y : Int} (h : wfs b n) (ei : b[i]? = some t) (ej : b[j]? = some u) (x0 : 0 ≤ x) (x1 : x < t.len) (y0 : 0 ≤ y) (y1 : y < u.len) (e : lens (b.take i) + x = lens (b.take j) + y) : i = j := by
  have mono : ∀ {i j : Nat}, i ≤ j → lens (b.take i) ≤ lens (b.take j) := fun {i j} hij => by
    have e2 : b.take i = (b.take j).take i := by rw [List.take_take, Nat.min_eq_left hij]
    have := lens_split (b.take j) i
    rw [← e2] at this
    have h2 := (lens_bd _ n (wfs_drop (i := i) (wfs_take (i := j) h))).1
    omega
  have li := lens_nextL ei
  have lj := lens_nextL ej
  by_cases g : i < j
  · have := mono (show i + 1 ≤ j by omega)
    omega
  · by_cases g2 : j < i
    · have := mono (show j + 1 ≤ i by omega)
      omega
    · omega
/-- at most one path for a step -/
theorem PT.unique {b : List Tr} {ps : List Int} {t : Tr} {r st : Int} (p : PT b ps t r st) : ∀ {n : Nat} {ps2 : List Int} {z z2 : Str} {as as2 : List Int}, wfs b n → t = .op z as → r = 0 → PT b ps2 (.op z2 as2) 0 st → ps2 = ps ∧ Tr.op z2 as2 = .op z as := by
  induction p with
  | @here b i t r e =>
    intro n ps2 z z2 as as2 h et er p2
    subst et er
    generalize hs : lens (b.take i) + 0 = st at p2
    generalize ht : Tr.op z2 as2 = t2 at p2
    generalize hr : (0 : Int) = r2 at p2
    cases p2 with
    | @here _ j _ _ e2 =>
      subst ht hr
      have ij := idx_unique h e e2 (Int.le_refl 0) (by rw [Tr.len]; decide) (Int.le_refl 0) (by rw [Tr.len]; decide) hs
      subst ij
      rw [e] at e2
      cases e2
      exact ⟨rfl, rfl⟩
    | @into _ b' j k turn _ st' _ ps' e2 h0 h1 p' =>
      subst ht hr
      have wt := wfs_get h e2
      cases n with
      | zero => rw [Tr.wf] at wt; exact wt.elim
      | succ n =>
        rw [Tr.wf] at wt
        obtain ⟨s0, s1, _⟩ := p'.step wt.2.2.2 (Int.le_refl 0) (by rw [Tr.len]; decide)
        have m0 : 0 ≤ turn * lens b' := Int.mul_nonneg h0 (by omega)
        have m1 : turn * lens b' + lens b' ≤ k * lens b' := by
          have := Int.mul_le_mul_of_nonneg_right (show turn + 1 ≤ k by omega) (show 0 ≤ lens b' by omega)
          rw [Int.add_mul, Int.one_mul] at this
          exact this
        have ij := idx_unique h e e2 (Int.le_refl 0) (by rw [Tr.len]; decide) (show 0 ≤ turn * lens b' + st' by omega) (by rw [Tr.len]; omega) hs
        subst ij
        rw [e] at e2
        cases e2
  | @into b b' i k turn r st t ps e h0 h1 p ih =>
    intro n ps2 z z2 as as2 h et er p2
    have wt := wfs_get h e
    cases n with
    | zero => rw [Tr.wf] at wt; exact wt.elim
    | succ n =>
      rw [Tr.wf] at wt
      have p0 := p
      subst et er
      obtain ⟨s0, s1, _⟩ := p0.step wt.2.2.2 (Int.le_refl 0) (by rw [Tr.len]; decide)
      have m0 : 0 ≤ turn * lens b' := Int.mul_nonneg h0 (by omega)
      have m1 : turn * lens b' + lens b' ≤ k * lens b' := by
        have := Int.mul_le_mul_of_nonneg_right (show turn + 1 ≤ k by omega) (show 0 ≤ lens b' by omega)
        rw [Int.add_mul, Int.one_mul] at this
        exact this
      generalize hs : lens (b.take i) + (turn * lens b' + st) = st2 at p2
      generalize ht : Tr.op z2 as2 = t2 at p2
      generalize hr : (0 : Int) = r2 at p2
      cases p2 with
      | @here _ j _ _ e2 =>
        subst ht hr
        have ij := idx_unique h e e2 (show 0 ≤ turn * lens b' + st by omega) (by rw [Tr.len]; omega) (Int.le_refl 0) (by rw [Tr.len]; decide) hs
        subst ij
        rw [e] at e2
        cases e2
      | @into _ b2 j k2 turn2 _ st' _ ps' e2 g0 g1 p' =>
        subst ht hr
        have wt2 := wfs_get h e2
        rw [Tr.wf] at wt2
        obtain ⟨q0, q1, _⟩ := p'.step wt2.2.2.2 (Int.le_refl 0) (by rw [Tr.len]; decide)
        have n0 : 0 ≤ turn2 * lens b2 := Int.mul_nonneg g0 (by omega)
        have n1 : turn2 * lens b2 + lens b2 ≤ k2 * lens b2 := by
          have := Int.mul_le_mul_of_nonneg_right (show turn2 + 1 ≤ k2 by omega) (show 0 ≤ lens b2 by omega)
          rw [Int.add_mul, Int.one_mul] at this
          exact this
        have ij := idx_unique h e e2 (show 0 ≤ turn * lens b' + st by omega) (by rw [Tr.len]; omega) (show 0 ≤ turn2 * lens b2 + st' by omega) (by rw [Tr.len]; omega) hs
        subst ij
        rw [e] at e2
        cases e2
        have et : turn = turn2 := by
          have hs2 : turn * lens b' + st = turn2 * lens b' + st' := by omega
          by_cases g : turn < turn2
          · have := Int.mul_le_mul_of_nonneg_right (show turn + 1 ≤ turn2 by omega) (show 0 ≤ lens b' by omega)
            rw [Int.add_mul, Int.one_mul] at this
            omega
          · by_cases g2 : turn2 < turn
            · have := Int.mul_le_mul_of_nonneg_right (show turn2 + 1 ≤ turn by omega) (show 0 ≤ lens b' by omega)
              rw [Int.add_mul, Int.one_mul] at this
              omega
            · omega
        subst et
        have es : st' = st := by omega
        subst es
        obtain ⟨i1, i2⟩ := ih wt.2.2.2 rfl rfl p'
        exact ⟨by rw [i1], i2⟩
theorem PT.ne {b : List Tr} {ps : List Int} {t : Tr} {r st : Int} (p : PT b ps t r st) : ps ≠ [] := by
  cases p <;> intro z <;> cases z
/-- numbers of a path are bounded -/
theorem PT.small {b : List Tr} {ps : List Int} {t : Tr} {r st : Int} (p : PT b ps t r st) : ∀ {n : Nat}, wfs b n → b.length ≤ 1000 → ∀ m ∈ ps, 0 ≤ m ∧ m ≤ 10 ^ 18 := by
  induction p with
  | @here b i t r e =>
    intro n h hl m k
    have := (List.getElem?_eq_some_iff.mp e).1
    rw [List.mem_singleton.mp k]
    omega
  | @into b b' i k turn r st t ps e h0 h1 p ih =>
    intro n h hl m k'
    have := (List.getElem?_eq_some_iff.mp e).1
    have wt := wfs_get h e
    cases n with
    | zero => rw [Tr.wf] at wt; exact wt.elim
    | succ n =>
      rw [Tr.wf] at wt
      rcases List.mem_cons.mp k' with rfl | k'
      · omega
      · rcases List.mem_cons.mp k' with rfl | k'
        · omega
        · exact ih wt.2.2.2 wt.2.2.1 m k'
end Lj
set_option Elab.async false
set_option linter.all false
set_option maxRecDepth 100000
set_option maxHeartbeats 1000000
/-! ### for i, x in enumerate(t), t a tuple -/
namespace Lj
open PySem PySem.Spec PyProof.Rows L2
theorem meets_enum1 {v : Value} {o : Obj} {S : Heap → Prop} (B : Begins v o S) : Meets (Builtin.«enumerate.__new__» ⟨[.type "enumerate", v], []⟩) (fun _ R s => S s.heap ∧
    R (.ok (.ret (.ref (s.heap.push o).objs.size))) { s with heap := (s.heap.push o).push { cls := .type "enumerate", data := .fields #[.none, .bool false, .ref s.heap.objs.size, rawInt 0, .none, .none] } }) :=
  .of_wp fun prog w A R s h => by
    obtain ⟨hh, gg, dd, tt, oo⟩ := s
    obtain ⟨src, h⟩ := h
    have sub := sub_enumerate
    have walk : ∀ {A' : Around} {E : Value → Shared → Prop} {Q : Value → Shared → Prop}, Q (.ref hh.objs.size) ⟨hh.push o, gg, dd, tt, oo⟩ → wpAny (model prog w) A' (pyIter v) Q E ⟨hh, gg, dd, tt, oo⟩ := fun q => B.iter prog w _ _ ⟨hh, gg, dd, tt, oo⟩ _ src q
    wp_walk using walk
    refine wpAny_stack_any fun st => wpAny_pure ?_
    split
    · rename_i c _ _ _ _ _
      cases (c == Value.type "enumerate") <;> (wp_walk using walk; exact ⟨_, rfl, h⟩)
    · wp_walk using walk
      exact ⟨_, rfl, h⟩
section
variable {prog : Program} {w : World} {A : Around} {E : Value → Shared → Prop} {s : Shared}
theorem call_enum1 {v : Value} {o : Obj} {S : Heap → Prop} {Q : Value → Shared → Prop} (B : Begins v o S) (src : S s.heap)
    (h : ∀ h', IsEnum h' (s.heap.objs.size + 1) s.heap.objs.size 0 .none → h'.get? s.heap.objs.size = some o → (∀ b o, s.heap.get? b = some o → h'.get? b = some o) → Q (.ref (s.heap.objs.size + 1)) { s with heap := h' }) :
    wpAny (model prog w) A (call (.type "enumerate") [v]) Q E s := by
  refine callType_new F.called_enumerate (by decide) (F.typeCall_enumerate_1 _) (F.newCall_enumerate_1 _) (fun obj => F.args_object_init_2 obj _) F.entry_enumerate_new (meets_enum1 B) ⟨src, ?_⟩
  have sz : (s.heap.push o).objs.size = s.heap.objs.size + 1 := Heap.size_push ..
  have he := Heap.get?_push_size (s.heap.push o) (o := { cls := .type "enumerate", data := .fields #[.none, .bool false, .ref s.heap.objs.size, rawInt 0, .none, .none] }) rfl
  show _ ∧ _
  rw [sz] at he ⊢
  exact ⟨⟨_, he, rfl⟩, h _ he (Heap.get?_push_of_some _ (Heap.get?_push_size _ B.free)) fun b o x => Heap.get?_push_of_some _ (Heap.get?_push_of_some _ x)⟩
end
/-- the tuple at a, each item in a new pair -/
def IteT (K : PySem.W.Frag) (a : Addr) : It :=
  ⟨fun i H => ∃ (xs : List V) (x : V), SqT K H a xs ∧ xs[i]? = some x, fun i H v H' => ∃ T x, v = .ref T ∧ H T = none ∧ H' = upd H T (.tup [.int (i : Nat), x]) ∧ ∀ xs, SqT K H a xs → xs[i]? = some x, fun i H => ∃ xs : List V, SqT K H a xs ∧ xs.length = i⟩
theorem turn_enumT {P : Program} {w : World} {K : PySem.W.Frag} {elts : List Expr} {kk : Nat} {tpos : Pos} (a e it : Addr) :
    Turn P w K (.Tuple elts kk tpos) (IteT K a) [e, it] e (fun i h => (∃ old, IsEnum h e it ((i : Nat) : Int) old) ∧ h.IsTupleIter it a i ∧ e ≠ it) where
  mem := by simp
  obj := fun i h st b hb => by
    obtain ⟨⟨old, he⟩, ⟨o, ho, hc, hd⟩, _⟩ := st
    rcases (show b = e ∨ b = it by simpa using hb) with z | z
    · rw [z]
      exact ⟨_, he, fun v q => nomatch q⟩
    · rw [z]
      exact ⟨o, ho, fun v q => by rw [hd] at q; cases q⟩
  keep := fun i h h' st k => let ⟨⟨old, he⟩, hi, hne⟩ := st; ⟨⟨old, k e (by simp) _ he⟩, hi.at fun o q => k it (by simp) o q, hne⟩
  item := by
    intro X hP hw hK hc i pins s σ H E I hf st hg
    subst hP hw hK
    obtain ⟨⟨old, he⟩, hit, hne⟩ := st
    obtain ⟨xs, x, hq, hx⟩ := hg
    obtain ⟨its, rv, p, hz⟩ := I.tuple hq
    obtain ⟨u, hu, ru⟩ := rv.get hx
    have el : e < s.heap.objs.size := Heap.lt_size he
    have il : it < s.heap.objs.size := by obtain ⟨_, q, _⟩ := hit; exact Heap.lt_size q
    have hT0 : s.heap.IsTuple a its.toArray := p
    have ha : a ≠ it := fun z => by
      obtain ⟨o1, e1, c1, _⟩ := hit
      obtain ⟨o2, e2, c2, _⟩ := hT0
      rw [z, e1] at e2
      cases e2
      rw [c1] at c2
      exact absurd c2 (by decide)
    have ha2 : a ≠ e := fun z => by
      obtain ⟨o2, e2, c2, _⟩ := hT0
      rw [z, he] at e2
      cases e2
      exact absurd (show Value.type "enumerate" = Value.type "tuple" from c2) (by decide)
    have hi : i < its.toArray.size := by
      have := (List.getElem?_eq_some_iff.mp hu).1
      simpa using this
    refine wpAny_pyNext_enum_itemD (Draws.tuple (show X.A.in1.handled = none from I.ok.hd hc) it a ha its.toArray) he ⟨hit, hT0⟩ hi hne (by simp [hne, Ne.symm ha2]) fun x' h' tk hPx ho hst' hT hsz hk => ?_
    have ex : x' = u := by
      have : its.toArray[i]? = some x' := hPx
      rw [List.getElem?_toArray, hu] at this
      exact (Option.some.inj this).symm
    subst ex
    refine ⟨_, rfl, wpAny_letOwnedTupleGo_enum (s := { s with heap := h', toks := tk + 1 }) ho fun h'' he' sb => ?_⟩
    have hT2 : h''.get? s.heap.objs.size = some { cls := .type "tuple", data := .seq #[.int i tk, x'] } := (sb.2 _ (Nat.ne_of_gt el)).trans hT
    have new : ObjOk X.prog X.w (upd H s.heap.objs.size (.tup [.int (i : Nat), x])) h'' s.heap.objs.size (.tup [.int (i : Nat), x]) :=
      ⟨by show 2 ≤ sizeLine; decide, [.int i tk, x'], .cons ⟨_, rfl⟩ (.cons ru .nil), ⟨_, hT2, rfl, _, rfl⟩⟩
    have I1 : Inv X pins σ (upd H s.heap.objs.size (.tup [.int (i : Nat), x])) { s with heap := h'', toks := tk + 1 } :=
      I.turnedNew (ch := [e, it]) (fun b ob hb q => (sb.2 b (fun z => hb (by simp [z]))).trans (hk b ob (fun z => hb (by simp [z])) (fun z => hb (by simp [z])) q)) hf (Nat.le_refl _) new
    refine ⟨.ref s.heap.objs.size, _, I1, rfl, ⟨_, x, rfl, I.hok.fresh (Nat.le_refl _), rfl, fun ys hy => by rw [I.tuple_inj hy hq]; exact hx⟩, ⟨⟨x', ?_⟩, hst'.1.at fun o q => (sb.2 it (Ne.symm hne)).trans q, hne⟩, fun b hb => ?_⟩
    · rw [show ((i + 1 : Nat) : Int) = (i : Int) + 1 by omega]
      exact he'
    · have lt : b < s.heap.objs.size := by
        rcases (show b = e ∨ b = it by simpa using hb) with z | z
        · rw [z]; exact el
        · rw [z]; exact il
      rw [upd_ne (Nat.ne_of_lt lt)]
      exact (hf b hb).1
  done := by
    intro X hP hw hK hc i pins s σ H E I hf st hg
    subst hP hw hK
    obtain ⟨⟨old, he⟩, hit, hne⟩ := st
    obtain ⟨xs, hq, hx⟩ := hg
    obtain ⟨its, rv, p, hz⟩ := I.tuple hq
    obtain ⟨f0, f1, f2, f3, f4, f5⟩ := hf it (by simp)
    have hT0 : s.heap.IsTuple a its.toArray := p
    have ha : a ≠ it := fun z => by
      obtain ⟨o1, e1, c1, _⟩ := hit
      obtain ⟨o2, e2, c2, _⟩ := hT0
      rw [z, e1] at e2
      cases e2
      rw [c1] at c2
      exact absurd c2 (by decide)
    have hl : its.toArray.size = i := by
      have := rv.length
      simp
      omega
    subst hl
    exact wpAny_pyNext_enum_endD (Draws.tuple (show X.A.in1.handled = none from I.ok.hd hc) it a ha its.toArray) he ⟨hit, hT0⟩ fun h' eb => ⟨rfl, I.turned (t' := s.toks) (fun b o hb q => eb b o hb q) f0 f1 f3 f4 f5⟩
  self := fun A i s Q E st h => let ⟨⟨_, he⟩, _⟩ := st; wpAny_pyIter_enum he h
def iEnumT (K : PySem.W.Frag) (ta : TA) : TI := fun σ H R => ta σ H fun vs H1 => ∃ a xs, vs = [.ref a] ∧ SqT K H1 a xs ∧ R (IteT K a) H1
theorem pi_enumT {X : Cx} {e : Expr} {ta : TA} {p pos tpos : Pos} {elts : List Expr} {kk : Nat} (hg : Gl X "enumerate") (hm : X.mg "enumerate" = none) (ha : PA X [e] ta) (hs : starEach [e] X.env = [(false, eval e X.env)] := by rfl) :
    PI X (.Tuple elts kk tpos) (.Call (.Name "enumerate" p) [e] [] pos) (iEnumT X.K ta) := by
  refine ⟨fun pins s σ H R I h => ?_⟩
  refine Call_ (ld_blt I hg hm boot_enumerate (PyProof.Rows.callWith_type1 (thn (ha.run pos pins s σ H _ I h) fun us s1 ⟨vs, H1, I1, r1, q1⟩ => ?_) hs rfl))
  obtain ⟨a, xs, ex, hq, q⟩ := q1
  subst ex
  obtain ⟨u, rfl, ru⟩ := r1.one
  cases ru
  obtain ⟨its, rv, p', hz⟩ := I1.tuple hq
  have hT0 : s1.heap.IsTuple a its.toArray := p'
  refine call_enum1 (begins_tuple a its.toArray) hT0 fun h' he hit hk => wpAny_pyIter_enum he ?_
  have I2 : Inv X pins σ H1 { s1 with heap := h' } := I1.kept (t' := s1.toks) hk
  refine ⟨s1.heap.objs.size + 1, [s1.heap.objs.size + 1, s1.heap.objs.size], _, _, H1, rfl, I2, turn_enumT a (s1.heap.objs.size + 1) s1.heap.objs.size, ⟨⟨.none, he⟩, ⟨_, hit, rfl, rfl⟩, Nat.succ_ne_self _⟩, fun b hb => ?_, q⟩
  have hle : s1.heap.objs.size ≤ b := by
    rcases (show b = s1.heap.objs.size + 1 ∨ b = s1.heap.objs.size by simpa using hb) with z | z
    · rw [z]; exact Nat.le_add_right _ _
    · rw [z]; exact Nat.le_refl _
  exact I1.fpOk hle (I1.hok.fresh hle)
theorem walk_enumT {K : PySem.W.Frag} {a : Addr} {xs : List V} : Walk (IteT K a) xs.length (fun H => SqT K H a xs) (YPair (fun i => some (.int (i : Nat))) (fun i => xs[i]?)) := by
  refine ⟨fun i _ hi q => ⟨xs, xs[i], q, by simp [hi]⟩, fun _ q => ⟨xs, q, rfl⟩, fun i H v H' _ q y => ?_⟩
  obtain ⟨T, x, h1, h2, h3, h4⟩ := y
  exact ⟨T, .int (i : Nat), x, h1, h2, h3, rfl, h4 xs q⟩
end Lj
set_option Elab.async false
set_option linter.all false
set_option maxRecDepth 100000
namespace Lj
open PySem PySem.Spec PyProof.Rows L2
/-! ### any(xs), xs a list of numbers -/
end Lj
set_option Elab.async false
set_option linter.all false
set_option maxRecDepth 100000
set_option pp.maxSteps 500
set_option pp.deepTerms.threshold 8
set_option pp.deepTerms false
namespace Lj
open PySem PySem.Spec PyProof.Rows L2 HT
/-! ### t[::-1], t a tuple -/
section
variable {prog : Program} {w : World} {A : Around} {E : Value → Shared → Prop} {s : Shared}
end
end Lj
set_option Elab.async false
set_option linter.all false
set_option maxRecDepth 100000
set_option pp.maxSteps 500
set_option pp.deepTerms.threshold 8
set_option pp.deepTerms false
namespace Lj
open PySem PySem.Spec PyProof.Rows L2 HT
/-! ### t[1::2], t a tuple that is not empty -/
section
variable {prog : Program} {w : World} {A : Around} {E : Value → Shared → Prop} {s : Shared}
end
end Lj
set_option Elab.async false
set_option linter.all false
set_option maxRecDepth 100000
set_option pp.maxSteps 500
set_option pp.deepTerms.threshold 8
set_option pp.deepTerms false
namespace Lj
open PySem PySem.Spec PyProof.Rows L2
/-! ### rows, and what a step does to them -/
def gt (r : List Int) (i : Int) : Int := r.getD i.toNat 0
def sv (r : List Int) (i v : Int) : List Int := r.set i.toNat v
theorem sv_len (r : List Int) (i v : Int) : (sv r i v).length = r.length := List.length_set
theorem at_gt {r : List Int} {i : Int} (h0 : 0 ≤ i) (h : i < (r.length : Int)) : atI (r.map V.int) i = some (.int (gt r i)) := by
  have hk : i.toNat < r.length := by omega
  have ek : i = ((i.toNat : Nat) : Int) := by omega
  have q : atI (r.map V.int) ((i.toNat : Nat) : Int) = some (.int (gt r i)) := atI_nat (by
    rw [List.getElem?_map, List.getElem?_eq_getElem hk]
    unfold gt
    rw [List.getD_eq_getElem?_getD, List.getElem?_eq_getElem hk]
    rfl)
  rw [← ek] at q
  exact q
theorem ix_sv {α : Type} {r : List α} {i : Int} (h0 : 0 ≤ i) (h : i < (r.length : Int)) : ixN r.length i = some i.toNat := by
  unfold ixN
  rw [if_pos h0, if_pos h]
theorem map_sv (r : List Int) (i v : Int) : (r.map V.int).set i.toNat (.int v) = (sv r i v).map V.int := by
  unfold sv
  rw [List.map_set]
def exRow (p : Int) (w : Str) (as r : List Int) : List Int := match as with
  | [x, c] => if w = "set" then sv r (x + 1) (c * gt r 0 % p) else if w = "scale" then sv r (x + 1) (c * gt r (x + 1) % p)
    else if w = "copy" then sv r (x + 1) (gt r (c + 1)) else if w = "swap" then sv (sv r (x + 1) (gt r (c + 1))) (c + 1) (gt r (x + 1)) else r
  | [x, y, c] => sv r (x + 1) ((gt r (x + 1) + c * gt r (y + 1)) % p)
  | _ => r
theorem ex_set (p x c : Int) (r : List Int) : exRow p "set" [x, c] r = sv r (x + 1) (c * gt r 0 % p) := by
  unfold exRow
  exact if_pos rfl
theorem ex_scale (p x c : Int) (r : List Int) : exRow p "scale" [x, c] r = sv r (x + 1) (c * gt r (x + 1) % p) := by
  unfold exRow
  exact (if_neg (by decide)).trans (if_pos rfl)
theorem ex_copy (p x c : Int) (r : List Int) : exRow p "copy" [x, c] r = sv r (x + 1) (gt r (c + 1)) := by
  unfold exRow
  exact (if_neg (by decide)).trans ((if_neg (by decide)).trans (if_pos rfl))
theorem ex_swap (p x c : Int) (r : List Int) : exRow p "swap" [x, c] r = sv (sv r (x + 1) (gt r (c + 1))) (c + 1) (gt r (x + 1)) := by
  unfold exRow
  exact (if_neg (by decide)).trans ((if_neg (by decide)).trans ((if_neg (by decide)).trans (if_pos rfl)))
theorem ex_add (p x y c : Int) (r : List Int) : exRow p "add" [x, y, c] r = sv r (x + 1) ((gt r (x + 1) + c * gt r (y + 1)) % p) := rfl
theorem ex_len {p n : Int} {w : Str} {as r : List Int} (g : GoodOp p n w as) : (exRow p w as r).length = r.length := by
  rcases g with ⟨rfl | rfl, x, c, rfl, _⟩ | ⟨rfl | rfl, x, rfl, _⟩ | ⟨rfl | rfl, x, y, rfl, _⟩ | ⟨rfl, x, y, c, rfl, _⟩
  · rw [ex_set, sv_len]
  · rw [ex_scale, sv_len]
  · rfl
  · rfl
  · rw [ex_copy, sv_len]
  · rw [ex_swap, sv_len, sv_len]
  · rw [ex_add, sv_len]
/-- a run on its way -/
structure RS where
  row : List Int
  tk : Nat
  wr : List Int
def stp (p : Int) (is : List Int) (s : RS) : Tr → RS
  | .op w as => if w = "read" then ⟨sv s.row (as.headD 0 + 1) (is.getD s.tk 0), s.tk + 1, s.wr⟩ else if w = "write" then ⟨s.row, s.tk, s.wr ++ [gt s.row (as.headD 0 + 1)]⟩ else ⟨exRow p w as s.row, s.tk, s.wr⟩
  | .loop _ _ => s
def rns (p : Int) (is : List Int) (s : RS) (E : List Tr) : RS := E.foldl (stp p is) s
def run0 (rs : List Int) : RS := ⟨1 :: rs, 0, []⟩
theorem rns_append (p : Int) (is : List Int) (s : RS) (E F : List Tr) : rns p is s (E ++ F) = rns p is (rns p is s E) F := List.foldl_append
theorem stp_read (p : Int) (is : List Int) (s : RS) (as : List Int) : stp p is s (.op "read" as) = ⟨sv s.row (as.headD 0 + 1) (is.getD s.tk 0), s.tk + 1, s.wr⟩ := by
  unfold stp
  exact if_pos rfl
theorem stp_write (p : Int) (is : List Int) (s : RS) (as : List Int) : stp p is s (.op "write" as) = ⟨s.row, s.tk, s.wr ++ [gt s.row (as.headD 0 + 1)]⟩ := by
  unfold stp
  exact (if_neg (by decide)).trans (if_pos rfl)
theorem stp_else {p : Int} {is : List Int} {s : RS} {w : Str} {as : List Int} (h1 : w ≠ "read") (h2 : w ≠ "write") : stp p is s (.op w as) = ⟨exRow p w as s.row, s.tk, s.wr⟩ := by
  unfold stp
  exact (if_neg h1).trans (if_neg h2)
/-- good steps, and no others -/
def Goods (p n : Int) (E : List Tr) : Prop := ∀ t ∈ E, ∃ w as, t = .op w as ∧ GoodOp p n w as
theorem stp_len {p n : Int} {is : List Int} {s : RS} {w : Str} {as : List Int} (g : GoodOp p n w as) : (stp p is s (.op w as)).row.length = s.row.length := by
  by_cases h1 : w = "read"
  · subst h1
    rw [stp_read]
    exact sv_len _ _ _
  · by_cases h2 : w = "write"
    · subst h2
      rw [stp_write]
    · rw [stp_else h1 h2]
      exact ex_len g
theorem rns_len {p n : Int} {is : List Int} : ∀ {E : List Tr} {s : RS}, Goods p n E → (rns p is s E).row.length = s.row.length
  | [], _, _ => rfl
  | t :: r, s, g => by
    obtain ⟨w, as, rfl, go⟩ := g t List.mem_cons_self
    show (rns p is (stp p is s (.op w as)) r).row.length = _
    rw [rns_len (fun u m => g u (List.mem_cons_of_mem _ m)), stp_len go]
theorem stp_tk {p : Int} {is : List Int} {s : RS} {w : Str} {as : List Int} : ((stp p is s (.op w as)).tk : Int) = s.tk + rc [.op w as] := by
  by_cases h1 : w = "read"
  · subst h1
    rw [stp_read]
    rfl
  · have e : rc [.op w as] = 0 := by
      show ((([w].count ("read" : Str) : Nat)) : Int) = 0
      rw [List.count_eq_zero_of_not_mem (fun m => h1 (List.mem_singleton.mp m).symm)]
      rfl
    rw [e]
    by_cases h2 : w = "write"
    · subst h2
      rw [stp_write]
      exact (Int.add_zero _).symm
    · rw [stp_else h1 h2]
      exact (Int.add_zero _).symm
theorem rns_tk {p n : Int} {is : List Int} : ∀ {E : List Tr} {s : RS}, Goods p n E → ((rns p is s E).tk : Int) = s.tk + rc E
  | [], s, _ => (Int.add_zero _).symm
  | t :: r, s, g => by
    obtain ⟨w, as, rfl, go⟩ := g t List.mem_cons_self
    show ((rns p is (stp p is s (.op w as)) r).tk : Int) = _
    rw [rns_tk (fun u m => g u (List.mem_cons_of_mem _ m)), stp_tk, Int.add_assoc, ← rc_append]
    rfl
theorem Goods.take {p n : Int} {E : List Tr} (g : Goods p n E) (i : Nat) : Goods p n (E.take i) := fun t m => g t (List.mem_of_mem_take m)
/-- field elements -/
def In (p : Int) (r : List Int) : Prop := ∀ x ∈ r, 0 ≤ x ∧ x < p
theorem in_gt {p : Int} {r : List Int} (h : In p r) (p0 : 0 < p) (i : Int) : 0 ≤ gt r i ∧ gt r i < p := by
  unfold gt
  rw [List.getD_eq_getElem?_getD]
  cases e : r[i.toNat]? with
  | none => exact ⟨by show (0 : Int) ≤ 0; omega, p0⟩
  | some x => exact h x (List.mem_of_getElem? e)
theorem in_sv {p : Int} {r : List Int} {i v : Int} (h : In p r) (h0 : 0 ≤ v) (h1 : v < p) : In p (sv r i v) := fun x m => by
  rcases List.mem_or_eq_of_mem_set m with m | rfl
  · exact h x m
  · exact ⟨h0, h1⟩
theorem in_mod {p : Int} (p0 : 0 < p) (x : Int) : 0 ≤ x % p ∧ x % p < p := ⟨Int.emod_nonneg _ (by omega), Int.emod_lt_of_pos _ p0⟩
theorem in_ex {p n : Int} {w : Str} {as r : List Int} (g : GoodOp p n w as) (p0 : 0 < p) (h : In p r) : In p (exRow p w as r) := by
  rcases g with ⟨rfl | rfl, x, c, rfl, _⟩ | ⟨rfl | rfl, x, rfl, _⟩ | ⟨rfl | rfl, x, y, rfl, _⟩ | ⟨rfl, x, y, c, rfl, _⟩
  · rw [ex_set]
    exact in_sv h (in_mod p0 _).1 (in_mod p0 _).2
  · rw [ex_scale]
    exact in_sv h (in_mod p0 _).1 (in_mod p0 _).2
  · exact h
  · exact h
  · rw [ex_copy]
    exact in_sv h (in_gt h p0 _).1 (in_gt h p0 _).2
  · rw [ex_swap]
    exact in_sv (in_sv h (in_gt h p0 _).1 (in_gt h p0 _).2) (in_gt h p0 _).1 (in_gt h p0 _).2
  · rw [ex_add]
    exact in_sv h (in_mod p0 _).1 (in_mod p0 _).2
theorem in_getD {p : Int} {is : List Int} (h : In p is) (p0 : 0 < p) (k : Nat) : 0 ≤ is.getD k 0 ∧ is.getD k 0 < p := by
  rw [List.getD_eq_getElem?_getD]
  cases e : is[k]? with
  | none => exact ⟨by show (0 : Int) ≤ 0; omega, p0⟩
  | some x => exact h x (List.mem_of_getElem? e)
theorem in_stp {p n : Int} {is : List Int} {s : RS} {w : Str} {as : List Int} (g : GoodOp p n w as) (p0 : 0 < p) (hi : In p is) (h : In p s.row ∧ In p s.wr) : In p (stp p is s (.op w as)).row ∧ In p (stp p is s (.op w as)).wr := by
  by_cases h1 : w = "read"
  · subst h1
    rw [stp_read]
    exact ⟨in_sv h.1 (in_getD hi p0 _).1 (in_getD hi p0 _).2, h.2⟩
  · by_cases h2 : w = "write"
    · subst h2
      rw [stp_write]
      refine ⟨h.1, fun x m => ?_⟩
      rcases List.mem_append.mp m with m | m
      · exact h.2 x m
      · rw [List.mem_singleton.mp m]
        exact in_gt h.1 p0 _
    · rw [stp_else h1 h2]
      exact ⟨in_ex g p0 h.1, h.2⟩
theorem in_rns {p n : Int} {is : List Int} (p0 : 0 < p) (hi : In p is) : ∀ {E : List Tr} {s : RS}, Goods p n E → In p s.row ∧ In p s.wr → In p (rns p is s E).row ∧ In p (rns p is s E).wr
  | [], _, _, h => h
  | t :: r, s, g, h => by
    obtain ⟨w, as, rfl, go⟩ := g t List.mem_cons_self
    exact in_rns (E := r) p0 hi (fun u m => g u (List.mem_cons_of_mem _ m)) (in_stp go p0 hi h)
/-! ### the promise of executed -/
def spEx (K : PySem.W.Frag) : Sp := fun vs H Q _ => ∃ (p n : Int) (w : Str) (as : List Int) (v : V) (l : Addr) (r : List Int), vs = [.int p, v, .ref l] ∧ TrAt K H (.op w as) v ∧ GoodOp p n w as ∧ w ≠ "read" ∧ 2 ≤ p ∧ p ≤ 10007 ∧ SqL K H l (r.map V.int) ∧ (r.length : Int) = n + 1 ∧
  ∀ H' m, Same H H' → H m = none → H' m = some (.lst ((exRow p w as r).map V.int)) → Q (.ref m) H'
/-! ### the runner: an object -/
def rf (p : Int) (l g : Addr) (t : Int) (wl : Addr) : List (Str × V) := [("p", .int p), ("row", .ref l), ("given", .ref g), ("taken", .int t), ("written", .ref wl)]
section
variable (p : Int) (l g : Addr) (t : Int) (wl : Addr)
end
structure RTxt (K : PySem.W.Frag) (mg : Str → Option Value) (C : Addr) : Prop where
  cl : Cls K C
  nP : NoAttr K C "p"
  nR : NoAttr K C "row"
  nG : NoAttr K C "given"
  nT : NoAttr K C "taken"
  nW : NoAttr K C "written"
  mgC : mg "Runner" = some (.ref C)
end Lj
set_option Elab.async false
set_option linter.all false
set_option maxRecDepth 100000
set_option pp.maxSteps 500
set_option pp.deepTerms.threshold 8
set_option pp.deepTerms false
namespace Lj
open PySem PySem.Spec PyProof.Rows L2
/-! ### how much is executed, loops of at most r rounds -/
def mostR (r : Nat) : Nat → Nat → Nat
  | 0, _ => 1
  | d + 1, l => max 1 (r * ((l / 2) * mostR r d (l / 2)))
mutual
theorem Tr.made_exR {r : Nat} {G : Str → List Int → Prop} {R : Int → Prop} (hR : ∀ k, R k → 0 ≤ k ∧ k ≤ (r : Int)) : ∀ (t : Tr) (l d : Nat), t.made G R l d → t.ex.length ≤ mostR r d l
  | .op w as, l, 0, h => by rw [Tr.ex, mostR]; exact Nat.le_refl 1
  | .op w as, l, d + 1, h => by rw [Tr.ex, mostR]; exact Nat.le_max_left _ _
  | .loop k b, l, 0, h => by
    rw [Tr.made] at h
    exact h.elim
  | .loop k b, l, d + 1, h => by
    rw [Tr.made] at h
    have ih := mades_exR hR b (l / 2) d h.2.2
    have hk := hR k h.1
    rw [Tr.ex, mostR, List.length_flatten, List.map_replicate, List.sum_replicate_nat]
    refine Nat.le_trans ?_ (Nat.le_max_right _ _)
    have h1 : (exs b).length ≤ l / 2 * mostR r d (l / 2) := Nat.le_trans ih (Nat.mul_le_mul_right _ h.2.1)
    exact Nat.mul_le_mul (by omega) h1
theorem mades_exR {r : Nat} {G : Str → List Int → Prop} {R : Int → Prop} (hR : ∀ k, R k → 0 ≤ k ∧ k ≤ (r : Int)) : ∀ (b : List Tr) (l d : Nat), mades G R b l d → (exs b).length ≤ b.length * mostR r d l
  | [], _, _, _ => by rw [exs]; exact Nat.zero_le _
  | t :: q, l, d, h => by
    rw [mades] at h
    have h1 := Tr.made_exR hR t l d h.1
    have h2 := mades_exR hR q l d h.2
    rw [exs, List.length_append, List.length_cons, Nat.succ_mul]
    omega
end
theorem mostR0 (r : Nat) : ∀ d, mostR r d 0 = 1
  | 0 => rfl
  | d + 1 => by
    rw [mostR]
    show max 1 (r * (0 * _)) = 1
    rw [Nat.zero_mul, Nat.mul_zero]
    rfl
mutual
theorem Tr.made_fineR {r : Nat} {G : Str → List Int → Prop} {R : Int → Prop} (r1 : 1 ≤ r) (hG : ∀ w as, G w as → w ∈ W7) (hR : ∀ k, R k → 0 ≤ k ∧ k ≤ (r : Int)) : ∀ (t : Tr) (l d : Nat), max 1 l * mostR r d l ≤ 100000 → t.made G R l d → t.fine
  | .op w as, l, d, _, h => by
    rw [Tr.made] at h
    rw [Tr.fine]
    exact hG w as h
  | .loop k b, l, 0, _, h => by rw [Tr.made] at h; exact h.elim
  | .loop k b, l, d + 1, hb, h => by
    rw [Tr.made] at h
    rw [Tr.fine]
    have h1 : l / 2 * mostR r d (l / 2) ≤ 100000 := by
      have h0 : mostR r (d + 1) l ≤ 100000 := Nat.le_trans (Nat.le_mul_of_pos_left _ (by omega)) hb
      rw [mostR] at h0
      exact Nat.le_trans (Nat.le_mul_of_pos_left _ r1) (Nat.le_trans (Nat.le_max_right _ _) h0)
    have h2 := mades_exR hR b (l / 2) d h.2.2
    have h3 : b.length * mostR r d (l / 2) ≤ l / 2 * mostR r d (l / 2) := Nat.mul_le_mul_right _ h.2.1
    refine ⟨by omega, mades_fineR r1 hG hR b (l / 2) d ?_ h.2.2⟩
    by_cases z : l / 2 = 0
    · rw [z, mostR0]
      decide
    · rw [show max 1 (l / 2) = l / 2 by omega]
      omega
theorem mades_fineR {r : Nat} {G : Str → List Int → Prop} {R : Int → Prop} (r1 : 1 ≤ r) (hG : ∀ w as, G w as → w ∈ W7) (hR : ∀ k, R k → 0 ≤ k ∧ k ≤ (r : Int)) : ∀ (b : List Tr) (l d : Nat), max 1 l * mostR r d l ≤ 100000 → mades G R b l d → fines b
  | [], _, _, _, _ => by rw [fines]; trivial
  | t :: q, l, d, hl, h => by
    rw [mades] at h
    rw [fines]
    exact ⟨Tr.made_fineR r1 hG hR t l d hl h.1, mades_fineR r1 hG hR q l d hl h.2⟩
end
mutual
theorem Tr.made_ops {G : Str → List Int → Prop} {R : Int → Prop} : ∀ (t : Tr) (l d : Nat), t.made G R l d → ∀ x ∈ t.ex, ∃ z as, x = .op z as ∧ G z as
  | .op w as, l, d, h => by
    rw [Tr.made] at h
    rw [Tr.ex]
    intro t m
    exact ⟨w, as, List.mem_singleton.mp m, h⟩
  | .loop k b, l, 0, h => by rw [Tr.made] at h; exact h.elim
  | .loop k b, l, d + 1, h => by
    rw [Tr.made] at h
    rw [Tr.ex]
    intro t m
    obtain ⟨xs, m1, m2⟩ := List.mem_flatten.mp m
    rw [(List.mem_replicate.mp m1).2] at m2
    exact mades_ops b (l / 2) d h.2.2 t m2
theorem mades_ops {G : Str → List Int → Prop} {R : Int → Prop} : ∀ (b : List Tr) (l d : Nat), mades G R b l d → ∀ x ∈ exs b, ∃ z as, x = .op z as ∧ G z as
  | [], _, _, _ => by rw [exs]; intro t m; cases m
  | t :: r, l, d, h => by
    rw [mades] at h
    rw [exs]
    intro u m
    rcases List.mem_append.mp m with m | m
    · exact Tr.made_ops t l d h.1 u m
    · exact mades_ops r l d h.2 u m
end
/-! ### a history, or a result, in the heap: a pair of tuples -/
def HistAt (K : PySem.W.Frag) (H : Hp) (v : V) (h : List Int × List Int) : Prop := ∃ T t1 t2, v = .ref T ∧ SqT K H T [.ref t1, .ref t2] ∧ SqT K H t1 (h.1.map V.int) ∧ SqT K H t2 (h.2.map V.int)
theorem HistAt.kt {K : PySem.W.Frag} {H H' : Hp} {v : V} {h : List Int × List Int} (k : Kt H H') (x : HistAt K H v h) : HistAt K H' v h := by
  obtain ⟨T, t1, t2, e, a, b, c⟩ := x
  exact ⟨T, t1, t2, e, k.sq a, k.sq b, k.sq c⟩
def HistsAt (K : PySem.W.Frag) (H : Hp) : List V → List (List Int × List Int) → Prop
  | [], [] => True
  | v :: vs, h :: hs => HistAt K H v h ∧ HistsAt K H vs hs
  | _, _ => False
theorem HistsAt.kt {K : PySem.W.Frag} {H H' : Hp} (k : Kt H H') : ∀ {vs : List V} {hs : List (List Int × List Int)}, HistsAt K H vs hs → HistsAt K H' vs hs
  | [], [], _ => trivial
  | v :: vs, h :: hs, ⟨a, b⟩ => ⟨a.kt k, HistsAt.kt k b⟩
  | [], _ :: _, x => x.elim
  | _ :: _, [], x => x.elim
theorem HistsAt.snoc {K : PySem.W.Frag} {H : Hp} {v : V} {h : List Int × List Int} (a : HistAt K H v h) : ∀ {vs : List V} {hs : List (List Int × List Int)}, HistsAt K H vs hs → HistsAt K H (vs ++ [v]) (hs ++ [h])
  | [], [], _ => ⟨a, trivial⟩
  | _ :: _, _ :: _, ⟨x, y⟩ => ⟨x, HistsAt.snoc a y⟩
  | [], _ :: _, x => x.elim
  | _ :: _, [], x => x.elim
theorem HistsAt.get {K : PySem.W.Frag} {H : Hp} : ∀ {vs : List V} {hs : List (List Int × List Int)} {i : Nat} {v : V}, HistsAt K H vs hs → vs[i]? = some v → ∃ h, hs[i]? = some h ∧ HistAt K H v h
  | [], [], _, _, _, e => by simp at e
  | v :: vs, h :: hs, 0, _, ⟨a, _⟩, e => by
    cases e
    exact ⟨h, rfl, a⟩
  | v :: vs, h :: hs, i + 1, _, ⟨_, b⟩, e => HistsAt.get (i := i) b e
  | [], _ :: _, _, _, x, _ => x.elim
  | _ :: _, [], _, _, x, _ => x.elim
theorem HistsAt.length {K : PySem.W.Frag} {H : Hp} : ∀ {vs : List V} {hs : List (List Int × List Int)}, HistsAt K H vs hs → vs.length = hs.length
  | [], [], _ => rfl
  | _ :: _, _ :: _, ⟨_, b⟩ => by rw [List.length_cons, List.length_cons, HistsAt.length b]
  | [], _ :: _, x => x.elim
  | _ :: _, [], x => x.elim
def pairD (h : List Int × List Int) : PyData := .tuple [.tuple (h.1.map PyData.int), .tuple (h.2.map PyData.int)]
theorem HistAt.dp {K : PySem.W.Frag} {H : Hp} {v : V} {h : List Int × List Int} (x : HistAt K H v h) : Dp K H v (pairD h) := by
  obtain ⟨T, t1, t2, rfl, a, b, c⟩ := x
  exact .tup a (.cons (.tup b (dp_ints _)) (.cons (.tup c (dp_ints _)) .nil))
theorem leafs_tup {ns : List Int} (h : ∀ n ∈ ns, n.natAbs < 2 ^ 1000) : (PyData.tuple (ns.map PyData.int)).showable = true ∧ (PyData.tuple (ns.map PyData.int)).hasDict = false ∧ (PyData.tuple (ns.map PyData.int)).depth = 1 ∧ (PyData.tuple (ns.map PyData.int)).shown.length ≤ 1930 * ns.length + 100 := by
  obtain ⟨b1, b2, b3, b4, b5⟩ := leaf_all (leaf_ints h)
  refine ⟨by rw [PyData.showable]; exact b1, by rw [PyData.hasDict]; exact b2, by rw [PyData.depth, b3], ?_⟩
  rw [PyData.shown]
  have := PySem.tupleText_len_le (PyData.shownAll (ns.map PyData.int))
  rw [List.length_map] at b4 b5
  omega
theorem in_small {p : Int} {ns : List Int} (h : In p ns) (p1 : p ≤ 10007) : ∀ n ∈ ns, n.natAbs < 2 ^ 1000 := fun n m => by
  have := h n m
  have : (10007 : Nat) < 2 ^ 1000 := by decide +kernel
  omega
end Lj
set_option Elab.async false
set_option linter.all false
set_option maxRecDepth 100000
set_option pp.maxSteps 500
set_option pp.deepTerms.threshold 8
set_option pp.deepTerms false
namespace Lj
open PySem PySem.Spec PyProof.Rows L2
/-! ### a step on registers alone -/
section
variable (p : Int) (r : List Int) (v : Int)
end
/-! ### drawn programs, shown: finer -/
def sbL : Nat → Nat → Nat
  | 0, _ => 20000
  | d + 1, l => 20000 + (l / 2) * (sbL d (l / 2) + 2)
theorem sbL_ge : ∀ d l, 20000 ≤ sbL d l
  | 0, _ => Nat.le_refl _
  | d + 1, l => by rw [sbL]; omega
mutual
theorem Tr.made_showL {G : Str → List Int → Prop} {R : Int → Prop} (hG : ∀ w as, G w as → Short w as) (hR : ∀ k, R k → k.natAbs < 2 ^ 1000) : ∀ (t : Tr) (l d : Nat), t.made G R l d →
    t.datT.showable = true ∧ t.datT.hasDict = false ∧ t.datT.depth ≤ 2 * d + 1 ∧ t.datT.shown.length ≤ sbL d l
  | .op w as, l, d, h => by
    rw [Tr.made] at h
    obtain ⟨b1, b2, b3, b4⟩ := Tr.made_show (G := Short) (R := fun _ => False) (fun _ _ h => h) (fun _ h => h.elim) (.op w as) 0 0 (by decide) (by rw [Tr.made]; exact hG w as h)
    have := sbL_ge d l
    have e : sb 0 = 20000 := rfl
    exact ⟨b1, b2, by omega, by omega⟩
  | .loop k b, l, 0, h => by rw [Tr.made] at h; exact h.elim
  | .loop k b, l, d + 1, h => by
    rw [Tr.made] at h
    obtain ⟨b1, b2, b3, b4, b5⟩ := mades_showL hG hR b (l / 2) d h.2.2
    obtain ⟨i1, i2, i3, i4⟩ := leaf_int (log_of (hR k h.1) (by decide) (by decide))
    have lp : (PyData.shown (.str "loop")).length ≤ 20 := by decide +kernel
    have y := PySem.tupleText_len_le (PyData.shownAll (datTs b))
    have hb := h.2.1
    rw [Tr.datT]
    refine ⟨by rw [PyData.showable, PyData.showableAll, PyData.showable, PyData.showableAll, i1, PyData.showableAll, PyData.showable, b1, PyData.showableAll]; rfl, by rw [PyData.hasDict, PyData.hasDictAll, PyData.hasDict, PyData.hasDictAll, i2, PyData.hasDictAll, PyData.hasDict, b2, PyData.hasDictAll]; rfl, ?_, ?_⟩
    · rw [PyData.depth, PyData.depthAll, PyData.depth, PyData.depthAll, i3, PyData.depthAll, PyData.depth, PyData.depthAll]
      omega
    have z := PySem.tupleText_len_le [PyData.shown (.str "loop"), PyData.shown (.int k), PyData.shown (.tuple (datTs b))]
    have ez : (PyData.shown (.tuple (datTs b))) = tupleText (PyData.shownAll (datTs b)) := by rw [PyData.shown]
    rw [PyData.shown, PyData.shownAll, PyData.shownAll, PyData.shownAll, PyData.shownAll]
    rw [List.map_cons, List.map_cons, List.map_cons, List.map_nil, List.sum_cons, List.sum_cons, List.sum_cons, List.sum_nil, ez] at z
    rw [show ([PyData.shown (.str "loop"), PyData.shown (.int k), tupleText (PyData.shownAll (datTs b))] : List Str).length = 3 from rfl] at z
    rw [ez, sbL]
    have m1 : b.length * sbL d (l / 2) ≤ (l / 2) * sbL d (l / 2) := Nat.mul_le_mul_right _ hb
    have m2 : (l / 2) * (sbL d (l / 2) + 2) = (l / 2) * sbL d (l / 2) + (l / 2) * 2 := Nat.mul_add _ _ _
    omega
theorem mades_showL {G : Str → List Int → Prop} {R : Int → Prop} (hG : ∀ w as, G w as → Short w as) (hR : ∀ k, R k → k.natAbs < 2 ^ 1000) : ∀ (b : List Tr) (l d : Nat), mades G R b l d →
    PyData.showableAll (datTs b) = true ∧ PyData.hasDictAll (datTs b) = false ∧ PyData.depthAll (datTs b) ≤ 2 * d + 1 ∧ ((PyData.shownAll (datTs b)).map (·.length)).sum ≤ b.length * sbL d l ∧ (PyData.shownAll (datTs b)).length = b.length
  | [], l, d, _ => by
    rw [datTs]
    exact ⟨by rw [PyData.showableAll], by rw [PyData.hasDictAll], by rw [PyData.depthAll]; exact Nat.zero_le _, by rw [PyData.shownAll]; exact Nat.zero_le _, by rw [PyData.shownAll]; rfl⟩
  | t :: r, l, d, h => by
    rw [mades] at h
    obtain ⟨a1, a2, a3, a4⟩ := Tr.made_showL hG hR t l d h.1
    obtain ⟨b1, b2, b3, b4, b5⟩ := mades_showL hG hR r l d h.2
    rw [datTs]
    refine ⟨by rw [PyData.showableAll, a1, b1]; rfl, by rw [PyData.hasDictAll, a2, b2]; rfl, by rw [PyData.depthAll]; omega, ?_, by rw [PyData.shownAll, List.length_cons, b5, List.length_cons]⟩
    rw [PyData.shownAll, List.map_cons, List.sum_cons, List.length_cons, Nat.succ_mul]
    omega
end
end Lj
set_option linter.all false
namespace Lj
/-! ### rows over the integers modulo p: combinations, spans, dimensions -/
abbrev Row := Nat → Int
def comb : List Int → List Row → Nat → Int
  | w :: ws, r :: R, i => w * r i + comb ws R i
  | _, _, _ => 0
/-- x is, in the places below L, a combination of R -/
def InSp (p : Int) (L : Nat) (R : List Row) (x : Row) : Prop := ∃ ws, ∀ i, i < L → p ∣ x i - comb ws R i
theorem comb_nil (ws : List Int) (i : Nat) : comb ws [] i = 0 := by cases ws <;> rfl
theorem comb_nilL (R : List Row) (i : Nat) : comb [] R i = 0 := by cases R <;> rfl
def scal (c : Int) : List Int → List Int
  | [] => []
  | w :: ws => c * w :: scal c ws
theorem comb_scal (c : Int) : ∀ (ws : List Int) (R : List Row) (i : Nat), comb (scal c ws) R i = c * comb ws R i
  | [], R, i => by rw [scal, comb_nilL, Int.mul_zero]
  | w :: ws, [], i => by rw [comb_nil, comb_nil, Int.mul_zero]
  | w :: ws, r :: R, i => by
    rw [scal, comb, comb, comb_scal c ws R i]
    grind
def plus : List Int → List Int → List Int
  | [], v => v
  | w, [] => w
  | a :: w, b :: v => (a + b) :: plus w v
theorem comb_plus : ∀ (ws vs : List Int) (R : List Row) (i : Nat), comb (plus ws vs) R i = comb ws R i + comb vs R i
  | [], v, R, i => by rw [plus, comb_nilL, Int.zero_add]
  | a :: w, [], R, i => by rw [plus, comb_nilL, Int.add_zero]; intro h; cases h
  | a :: w, b :: v, [], i => by rw [comb_nil, comb_nil, comb_nil]; rfl
  | a :: w, b :: v, r :: R, i => by
    rw [plus, comb, comb, comb, comb_plus w v R i]
    grind
section
variable {p : Int} {L : Nat}
theorem InSp.zero {R : List Row} {x : Row} (h : ∀ i, i < L → p ∣ x i) : InSp p L R x := ⟨[], fun i hi => by rw [comb_nilL, Int.sub_zero]; exact h i hi⟩
theorem InSp.lin {R : List Row} {x y z : Row} (a b : Int) (hx : InSp p L R x) (hy : InSp p L R y) (hz : ∀ i, i < L → p ∣ z i - (a * x i + b * y i)) : InSp p L R z := by
  obtain ⟨ws, hw⟩ := hx
  obtain ⟨vs, hv⟩ := hy
  refine ⟨plus (scal a ws) (scal b vs), fun i hi => ?_⟩
  rw [comb_plus, comb_scal, comb_scal]
  obtain ⟨k1, e1⟩ := hw i hi
  obtain ⟨k2, e2⟩ := hv i hi
  obtain ⟨k3, e3⟩ := hz i hi
  refine ⟨k3 + a * k1 + b * k2, ?_⟩
  grind
theorem InSp.cong {R : List Row} {x z : Row} (hx : InSp p L R x) (hz : ∀ i, i < L → p ∣ z i - x i) : InSp p L R z := by
  refine InSp.lin 1 0 hx hx fun i hi => ?_
  obtain ⟨k, e⟩ := hz i hi
  exact ⟨k, by grind⟩
theorem InSp.mem {r : Row} : ∀ {R : List Row}, r ∈ R → InSp p L R r
  | a :: R, h => by
    rcases List.mem_cons.mp h with rfl | h
    · refine ⟨[1], fun i _ => ?_⟩
      rw [comb, comb_nilL]
      exact ⟨0, by grind⟩
    · obtain ⟨ws, hw⟩ := InSp.mem h
      refine ⟨0 :: ws, fun i hi => ?_⟩
      rw [comb]
      obtain ⟨k, e⟩ := hw i hi
      exact ⟨k, by grind⟩
theorem InSp.of_comb {S : List Row} : ∀ {R : List Row} (ws : List Int), (∀ r ∈ R, InSp p L S r) → InSp p L S (comb ws R)
  | [], ws, _ => InSp.zero fun i _ => by rw [comb_nil]; exact Int.dvd_zero _
  | a :: R, [], _ => InSp.zero fun i _ => by rw [comb_nilL]; exact Int.dvd_zero _
  | a :: R, w :: ws, h => by
    refine InSp.lin w 1 (h a List.mem_cons_self) (InSp.of_comb ws fun r m => h r (List.mem_cons_of_mem _ m)) fun i _ => ?_
    rw [comb]
    exact ⟨0, by grind⟩
theorem InSp.into {R S : List Row} {x : Row} (hx : InSp p L R x) (h : ∀ r ∈ R, InSp p L S r) : InSp p L S x := by
  obtain ⟨ws, hw⟩ := hx
  exact (InSp.of_comb ws h).cong hw
theorem InSp.mono {R S : List Row} {x : Row} (hx : InSp p L R x) (h : ∀ r ∈ R, r ∈ S) : InSp p L S x := hx.into fun r m => InSp.mem (h r m)
theorem InSp.cons_iff {R : List Row} {a x : Row} : InSp p L (a :: R) x ↔ ∃ c : Int, InSp p L R fun i => x i - c * a i := by
  constructor
  · rintro ⟨ws, hw⟩
    cases ws with
    | nil =>
      refine ⟨0, InSp.zero fun i hi => ?_⟩
      have := hw i hi
      rw [comb_nilL, Int.sub_zero] at this
      rw [Int.zero_mul, Int.sub_zero]
      exact this
    | cons w ws =>
      refine ⟨w, ws, fun i hi => ?_⟩
      have := hw i hi
      rw [comb] at this
      rw [show x i - w * a i - comb ws R i = x i - (w * a i + comb ws R i) by omega]
      exact this
  · rintro ⟨c, h⟩
    refine InSp.lin 1 c (h.mono fun r m => List.mem_cons_of_mem _ m) (InSp.mem (r := a) List.mem_cons_self) fun i _ => ⟨0, by grind⟩
/-- p is a prime as far as inverses go -/
def PInv (p : Int) : Prop := 1 < p ∧ ∀ a : Int, ¬ p ∣ a → ∃ b : Int, p ∣ a * b - 1
theorem InSp.swap {R : List Row} {a b : Row} (hp : PInv p) (h : InSp p L (a :: R) b) (n : ¬ InSp p L R b) : InSp p L (b :: R) a := by
  obtain ⟨c, hc⟩ := InSp.cons_iff.mp h
  by_cases d : p ∣ c
  · refine absurd (hc.cong fun i _ => ?_) n
    obtain ⟨k, e⟩ := d
    exact ⟨k * a i, by grind⟩
  · obtain ⟨u, k, e⟩ := hp.2 c d
    refine InSp.lin u (-u) (InSp.mem (r := b) List.mem_cons_self) (hc.mono fun r m => List.mem_cons_of_mem _ m) fun i _ => ?_
    exact ⟨- k * a i, by grind⟩
theorem InSp.nil_iff {x : Row} : InSp p L [] x ↔ ∀ i, i < L → p ∣ x i := by
  constructor
  · rintro ⟨ws, h⟩ i hi
    have := h i hi
    rw [comb_nil, Int.sub_zero] at this
    exact this
  · exact InSp.zero
/-! ### dimension, counted from the front -/
open Classical in
noncomputable def dimA (p : Int) (L : Nat) (A : List Row) : List Row → Nat
  | [] => 0
  | r :: R => (if InSp p L A r then 0 else 1) + dimA p L (r :: A) R
noncomputable def dim (p : Int) (L : Nat) (R : List Row) : Nat := dimA p L [] R
open Classical in
theorem dimA_back : ∀ (R A : List Row) (r : Row), dimA p L A (R ++ [r]) = dimA p L A R + (if InSp p L (R ++ A) r then 0 else 1)
  | [], A, r => by
    show dimA p L A [r] = dimA p L A [] + _
    rw [dimA, dimA, dimA]
    simp
  | a :: R, A, r => by
    rw [List.cons_append, dimA, dimA_back R (a :: A) r, dimA]
    have e : InSp p L (R ++ a :: A) r = InSp p L (a :: R ++ A) r := propext (by
      have k : ∀ {S T : List Row}, (∀ x, x ∈ S → x ∈ T) → InSp p L S r → InSp p L T r := fun h z => z.mono h
      exact ⟨k (by intro x m; simp only [List.cons_append, List.mem_cons, List.mem_append] at m ⊢; rcases m with m | m | m <;> simp [m]), k (by intro x m; simp only [List.cons_append, List.mem_cons, List.mem_append] at m ⊢; rcases m with m | m | m <;> simp [m])⟩)
    simp only [e]
    omega
open Classical in
theorem dim_back (R : List Row) (r : Row) : dim p L (R ++ [r]) = dim p L R + (if InSp p L R r then 0 else 1) := by
  have := dimA_back (p := p) (L := L) R [] r
  rw [List.append_nil] at this
  exact this
end
end Lj
set_option linter.all false
namespace Lj
/-! ### inverses by powers, as the law finds them -/
def pmg : Nat → Nat → Nat → Nat → Nat → Nat
  | 0, _, f, _, _ => f
  | n + 1, q, f, b, l => bif Nat.beq l 0 then f else pmg n q (bif Nat.beq (l % 2) 1 then f * b % q else f) (b * b % q) (l / 2)
def pmOk (q : Nat) : Bool := (List.range q).all fun a => Nat.beq a 0 || Nat.beq (a * pmg 14 q 1 a (q - 2) % q) 1
/-! ### sums, dot products -/
def sumF (f : Nat → Int) : Nat → Int
  | 0 => 0
  | n + 1 => sumF f n + f n
theorem sumF_cong {f g : Nat → Int} : ∀ {n : Nat}, (∀ k, k < n → f k = g k) → sumF f n = sumF g n
  | 0, _ => rfl
  | n + 1, h => by rw [sumF, sumF, sumF_cong fun k hk => h k (Nat.lt_succ_of_lt hk), h n (Nat.lt_succ_self n)]
theorem sumF_add (f : Nat → Int) (a : Nat) : ∀ b : Nat, sumF f (a + b) = sumF f a + sumF (fun i => f (a + i)) b
  | 0 => by rw [sumF, Nat.add_zero, Int.add_zero]
  | b + 1 => by rw [← Nat.add_assoc, sumF, sumF_add f a b, sumF]; omega
theorem sumF_zero {f : Nat → Int} : ∀ {n : Nat}, (∀ k, k < n → f k = 0) → sumF f n = 0
  | 0, _ => rfl
  | n + 1, h => by rw [sumF, sumF_zero fun k hk => h k (Nat.lt_succ_of_lt hk), h n (Nat.lt_succ_self n)]; rfl
theorem sumF_dvd {p : Int} {f g : Nat → Int} : ∀ {n : Nat}, (∀ k, k < n → p ∣ f k - g k) → p ∣ sumF f n - sumF g n
  | 0, _ => ⟨0, by rw [sumF, sumF]; omega⟩
  | n + 1, h => by
    obtain ⟨a, ha⟩ := sumF_dvd (n := n) fun k hk => h k (Nat.lt_succ_of_lt hk)
    obtain ⟨b, hb⟩ := h n (Nat.lt_succ_self n)
    exact ⟨a + b, by rw [sumF, sumF]; grind⟩
theorem sumF_lin (a b : Int) (f g : Nat → Int) : ∀ n : Nat, sumF (fun k => a * f k + b * g k) n = a * sumF f n + b * sumF g n
  | 0 => by rw [sumF, sumF, sumF]; omega
  | n + 1 => by rw [sumF, sumF, sumF, sumF_lin a b f g n]; grind
def dot (n : Nat) (e v : Nat → Int) : Int := sumF (fun k => e k * v k) n
theorem dot_lin {p a b : Int} {n : Nat} {e f g v : Nat → Int} (h : ∀ k, k < n → p ∣ e k - (a * f k + b * g k)) : p ∣ dot n e v - (a * dot n f v + b * dot n g v) := by
  unfold dot
  rw [← sumF_lin]
  refine sumF_dvd fun k hk => ?_
  obtain ⟨m, hm⟩ := h k hk
  exact ⟨m * v k, by grind⟩
/-- e begins at c, with 1 -/
def Begins (c : Nat) (e : Nat → Int) : Prop := (∀ k, k < c → e k = 0) ∧ e c = 1
theorem dot_begins {n c : Nat} {e v : Nat → Int} (h : Begins c e) (hc : c < n) : dot n e v = v c + sumF (fun i => e (c + 1 + i) * v (c + 1 + i)) (n - (c + 1)) := by
  unfold dot
  obtain ⟨m, rfl⟩ : ∃ m, n = c + 1 + m := ⟨n - (c + 1), by omega⟩
  rw [sumF_add, sumF, sumF_zero fun k hk => by rw [h.1 k hk, Int.zero_mul], h.2, show c + 1 + m - (c + 1) = m by omega]
  omega
theorem dot_last {n c : Nat} {e v : Nat → Int} (h : Begins c e) (hc : c < n) (hv : ∀ k, c < k → k < n → v k = 0) : dot n e v = v c := by
  rw [dot_begins h hc, sumF_zero fun k hk => by rw [hv _ (by omega) (by omega), Int.mul_zero]]
  omega
/-! ### weights of rows: what the equations say -/
/-- the weights ws, then -1 -/
def ext (m : Nat) (w : Nat → Int) : Nat → Int := fun k => if k < m then w k else -1
/-- the sum of rows by index -/
theorem comb_sum : ∀ (ws : List Int) (R : List Row) (i : Nat), ws.length = R.length → comb ws R i = sumF (fun k => (R.getD k fun _ => 0) i * ws.getD k 0) R.length
  | [], [], i, _ => rfl
  | w :: ws, r :: R, i, h => by
    rw [comb, comb_sum ws R i (by simpa using h), List.length_cons, Nat.add_comm R.length 1, sumF_add, sumF, sumF]
    simp only [Nat.add_comm 1, List.getD_cons_succ, List.getD_cons_zero]
    grind
/-- a combination may be given as many weights as there are rows -/
theorem comb_pad : ∀ (ws : List Int) (R : List Row), ∃ vs : List Int, vs.length = R.length ∧ ∀ i, comb vs R i = comb ws R i
  | ws, [] => ⟨[], rfl, fun i => by rw [comb_nil, comb_nil]⟩
  | [], r :: R => by
    obtain ⟨vs, h, e⟩ := comb_pad [] R
    refine ⟨0 :: vs, by simp [h], fun i => ?_⟩
    rw [comb, e, comb_nilL, comb_nilL]
    omega
  | w :: ws, r :: R => by
    obtain ⟨vs, h, e⟩ := comb_pad ws R
    refine ⟨w :: vs, by simp [h], fun i => ?_⟩
    rw [comb, comb, e]
theorem InSp.sum {p : Int} {L : Nat} {R : List Row} {x : Row} : InSp p L R x ↔ ∃ w : Nat → Int, ∀ i, i < L → p ∣ x i - sumF (fun k => (R.getD k fun _ => 0) i * w k) R.length := by
  constructor
  · rintro ⟨ws, h⟩
    obtain ⟨vs, hl, e⟩ := comb_pad ws R
    refine ⟨fun k => vs.getD k 0, fun i hi => ?_⟩
    rw [← comb_sum vs R i hl, e]
    exact h i hi
  · rintro ⟨w, h⟩
    refine ⟨(List.range R.length).map w, fun i hi => ?_⟩
    rw [comb_sum _ R i (by simp)]
    have e : sumF (fun k => (R.getD k fun _ => 0) i * ((List.range R.length).map w).getD k 0) R.length = sumF (fun k => (R.getD k fun _ => 0) i * w k) R.length := sumF_cong fun k hk => by
      rw [List.getD_eq_getElem?_getD (l := (List.range R.length).map w), List.getElem?_map, List.getElem?_range hk]
      rfl
    rw [e]
    exact h i hi
/-- the coefficients of place i: one for each row, then the right side -/
def eqn (R : List Row) (x : Row) (i : Nat) : Nat → Int := fun k => if k < R.length then (R.getD k fun _ => 0) i else x i
theorem dot_eqn (R : List Row) (x : Row) (i : Nat) (w : Nat → Int) : dot (R.length + 1) (eqn R x i) (ext R.length w) = sumF (fun k => (R.getD k fun _ => 0) i * w k) R.length - x i := by
  unfold dot
  rw [sumF]
  have e : sumF (fun k => eqn R x i k * ext R.length w k) R.length = sumF (fun k => (R.getD k fun _ => 0) i * w k) R.length := sumF_cong fun k hk => by
    unfold eqn ext
    rw [if_pos hk, if_pos hk]
  rw [e]
  unfold eqn ext
  rw [if_neg (Nat.lt_irrefl _), if_neg (Nat.lt_irrefl _)]
  omega
/-- what is known of the leading equations: lead c e says that e leads at c -/
structure Lead (p : Int) (R : List Row) (x : Row) (L : Nat) (lead : Nat → (Nat → Int) → Prop) : Prop where
  bg : ∀ c e, lead c e → c ≤ R.length ∧ Begins c e
  same : ∀ v : Nat → Int, (∀ i, i < L → p ∣ dot (R.length + 1) (eqn R x i) v) ↔ ∀ c e, lead c e → p ∣ dot (R.length + 1) e v
theorem Lead.none {p : Int} {R : List Row} {x : Row} {L : Nat} {lead : Nat → (Nat → Int) → Prop} (h : Lead p R x L lead) (hp : 1 < p) {e : Nat → Int} (k : lead R.length e) : ¬ InSp p L R x := by
  intro z
  obtain ⟨w, hw⟩ := InSp.sum.mp z
  have y := (h.same (ext R.length w)).mp (fun i hi => by
    rw [dot_eqn]
    obtain ⟨a, ha⟩ := hw i hi
    exact ⟨-a, by grind⟩) _ _ k
  rw [dot_last (h.bg _ _ k).2 (by omega) (fun j h1 h2 => by omega)] at y
  unfold ext at y
  rw [if_neg (Nat.lt_irrefl _)] at y
  obtain ⟨a, ha⟩ := y
  have : p ∣ 1 := ⟨-a, by grind⟩
  have := Int.le_of_dvd (by decide) this
  omega
theorem Lead.some {p : Int} {R : List Row} {x : Row} {L : Nat} {lead : Nat → (Nat → Int) → Prop} (h : Lead p R x L lead) {w : Nat → Int} (k : ∀ c e, lead c e → p ∣ dot (R.length + 1) e (ext R.length w)) : ∀ i, i < L → p ∣ x i - sumF (fun k => (R.getD k fun _ => 0) i * w k) R.length := by
  intro i hi
  have y := (h.same _).mpr k i hi
  rw [dot_eqn] at y
  obtain ⟨a, ha⟩ := y
  exact ⟨-a, by grind⟩
theorem Lead.new {p : Int} {R : List Row} {x : Row} {L : Nat} {lead : Nat → (Nat → Int) → Prop} (h : Lead p R x L lead) (hp : 1 < p) {c : Nat} {e : Nat → Int} (k : lead c e) (hc : c < R.length) : ¬ InSp p L (R.take c) (R.getD c fun _ => 0) := by
  intro z
  obtain ⟨w, hw⟩ := InSp.sum.mp z
  have lt : (R.take c).length = c := by rw [List.length_take]; omega
  rw [lt] at hw
  have y := (h.same (fun j => if j < c then w j else if j = c then -1 else 0)).mp (fun i hi => by
    obtain ⟨a, ha⟩ := hw i hi
    have e0 : dot (R.length + 1) (eqn R x i) (fun j => if j < c then w j else if j = c then -1 else 0) = sumF (fun k => ((R.take c).getD k fun _ => 0) i * w k) c - (R.getD c fun _ => 0) i := by
      unfold dot
      obtain ⟨m, hm⟩ : ∃ m, R.length + 1 = c + 1 + m := ⟨R.length - c, by omega⟩
      rw [hm, sumF_add, sumF]
      have z1 : sumF (fun i_1 => eqn R x i (c + 1 + i_1) * if c + 1 + i_1 < c then w (c + 1 + i_1) else if c + 1 + i_1 = c then -1 else 0) m = 0 := sumF_zero fun k _ => by
        rw [if_neg (by omega), if_neg (by omega), Int.mul_zero]
      have z2 : sumF (fun k => eqn R x i k * if k < c then w k else if k = c then -1 else 0) c = sumF (fun k => ((R.take c).getD k fun _ => 0) i * w k) c := sumF_cong fun k hk => by
        rw [if_pos hk]
        unfold eqn
        rw [if_pos (by omega), List.getD_eq_getElem?_getD, List.getD_eq_getElem?_getD, List.getElem?_take_of_lt hk]
      rw [z1, z2]
      have z3 : (if c < c then w c else if c = c then -1 else 0 : Int) = -1 := by rw [if_neg (Nat.lt_irrefl _), if_pos rfl]
      have z4 : eqn R x i c = (R.getD c fun _ => 0) i := by
        unfold eqn
        rw [if_pos hc]
      show _ + eqn R x i c * (if c < c then w c else if c = c then -1 else 0) + 0 = _
      rw [z3, z4]
      omega
    exact ⟨-a, by rw [e0]; grind⟩) _ _ k
  rw [dot_last (h.bg _ _ k).2 (by omega) (fun j h1 h2 => by rw [if_neg (by omega), if_neg (by omega)]), if_neg (Nat.lt_irrefl _), if_pos rfl] at y
  obtain ⟨a, ha⟩ := y
  have : p ∣ 1 := ⟨-a, by grind⟩
  have := Int.le_of_dvd (by decide) this
  omega
/-! ### weights are unique -/
/-- the weights of x: field elements, 0 where a row is a combination of those before it -/
structure Wts (p : Int) (L : Nat) (R : List Row) (x : Row) (w : List Int) : Prop where
  len : w.length = R.length
  bd : ∀ a ∈ w, 0 ≤ a ∧ a < p
  sum : ∀ i, i < L → p ∣ x i - sumF (fun k => (R.getD k fun _ => 0) i * w.getD k 0) R.length
  nz : ∀ c, c < R.length → w.getD c 0 ≠ 0 → ¬ InSp p L (R.take c) (R.getD c fun _ => 0)
theorem Wts.uniq {p : Int} {L : Nat} {R : List Row} {x : Row} {w u : List Int} (hp : PInv p) (a : Wts p L R x w) (b : Wts p L R x u) : w = u := by
  refine Classical.byContradiction fun ne => ?_
  -- the last place where they differ
  have key : ∀ n, n ≤ R.length → (∀ k, n ≤ k → k < R.length → w.getD k 0 = u.getD k 0) → False := by
    intro n
    induction n with
    | zero =>
      intro _ h
      refine ne (List.ext_getElem (by rw [a.len, b.len]) fun k h1 h2 => ?_)
      have := h k (Nat.zero_le _) (by rw [← a.len]; exact h1)
      rw [List.getD_eq_getElem?_getD, List.getD_eq_getElem?_getD, List.getElem?_eq_getElem h1, List.getElem?_eq_getElem h2] at this
      exact this
    | succ n ih =>
      intro hn h
      refine ih (by omega) fun k h1 h2 => ?_
      by_cases e : k = n
      · subst e
        refine Classical.byContradiction fun d => ?_
        have bd : ∀ {v : List Int}, (∀ a ∈ v, 0 ≤ a ∧ a < p) → k < v.length → 0 ≤ v.getD k 0 ∧ v.getD k 0 < p := fun {v} hv hk => by
          rw [List.getD_eq_getElem?_getD, List.getElem?_eq_getElem hk]
          exact hv _ (List.getElem_mem hk)
        have b1 := bd a.bd (by rw [a.len]; omega)
        have b2 := bd b.bd (by rw [b.len]; omega)
        have nd : ¬ p ∣ w.getD k 0 - u.getD k 0 := fun z => by
          have p1 := hp.1
          rcases Int.lt_trichotomy (w.getD k 0 - u.getD k 0) 0 with q | q | q
          · have := Int.le_of_dvd (a := p) (b := u.getD k 0 - w.getD k 0) (by omega) (by obtain ⟨m, hm⟩ := z; exact ⟨-m, by grind⟩)
            omega
          · omega
          · have := Int.le_of_dvd q z
            omega
        obtain ⟨t, m, hm⟩ := hp.2 _ nd
        have dep : InSp p L (R.take k) (R.getD k fun _ => 0) := by
          refine InSp.sum.mpr ⟨fun j => -t * (w.getD j 0 - u.getD j 0), fun i hi => ?_⟩
          have lt : (R.take k).length = k := by rw [List.length_take]; omega
          rw [lt]
          obtain ⟨m1, e1⟩ := a.sum i hi
          obtain ⟨m2, e2⟩ := b.sum i hi
          have split : ∀ v : List Int, sumF (fun j => (R.getD j fun _ => 0) i * v.getD j 0) R.length = sumF (fun j => (R.getD j fun _ => 0) i * v.getD j 0) k + (R.getD k fun _ => 0) i * v.getD k 0 + sumF (fun j => (R.getD (k + 1 + j) fun _ => 0) i * v.getD (k + 1 + j) 0) (R.length - (k + 1)) := fun v => by
            have e : R.length = k + 1 + (R.length - (k + 1)) := by omega
            conv => lhs; rw [e, sumF_add, sumF]
          rw [split w] at e1
          rw [split u] at e2
          have tail : sumF (fun j => (R.getD (k + 1 + j) fun _ => 0) i * w.getD (k + 1 + j) 0) (R.length - (k + 1)) = sumF (fun j => (R.getD (k + 1 + j) fun _ => 0) i * u.getD (k + 1 + j) 0) (R.length - (k + 1)) := sumF_cong fun j hj => by
            rw [h (k + 1 + j) (by omega) (by omega)]
          rw [tail] at e1
          have front : sumF (fun j => ((R.take k).getD j fun _ => 0) i * (-t * (w.getD j 0 - u.getD j 0))) k = -t * sumF (fun j => (R.getD j fun _ => 0) i * w.getD j 0) k + t * sumF (fun j => (R.getD j fun _ => 0) i * u.getD j 0) k := by
            rw [← sumF_lin]
            refine sumF_cong fun j hj => ?_
            have : (R.take k).getD j (fun _ => 0) = R.getD j fun _ => 0 := by
              rw [List.getD_eq_getElem?_getD, List.getD_eq_getElem?_getD, List.getElem?_take_of_lt hj]
            rw [this]
            grind
          rw [front]
          generalize sumF (fun j => (R.getD j fun _ => 0) i * w.getD j 0) k = A at *
          generalize sumF (fun j => (R.getD j fun _ => 0) i * u.getD j 0) k = B at *
          generalize sumF (fun j => (R.getD (k + 1 + j) fun _ => 0) i * u.getD (k + 1 + j) 0) (R.length - (k + 1)) = C at *
          generalize w.getD k 0 = W at *
          generalize u.getD k 0 = U at *
          generalize (R.getD k fun _ => 0) i = r at *
          generalize x i = y at *
          clear split tail front
          exact ⟨t * m2 - t * m1 - r * m, by grind⟩
        have z1 : w.getD k 0 = 0 := Classical.byContradiction fun z => a.nz k h2 z dep
        have z2 : u.getD k 0 = 0 := Classical.byContradiction fun z => b.nz k h2 z dep
        exact d (z1.trans z2.symm)
      · exact h k (by omega) h2
  exact key R.length (Nat.le_refl _) fun k h1 h2 => by omega
theorem Wts.in_sp {p : Int} {L : Nat} {R : List Row} {x : Row} {w : List Int} (a : Wts p L R x w) : InSp p L R x := InSp.sum.mpr ⟨fun k => w.getD k 0, a.sum⟩
end Lj
set_option Elab.async false
set_option linter.all false
set_option maxRecDepth 100000
set_option maxHeartbeats 1000000
namespace Lj
open PySem PySem.Spec PyProof.Rows L2
/-! ### sorted(d, reverse=b), d a dict with int keys -/
def rSortDR (b : Bool) : List V → List V → Hp → VK → Prop := fun vs zs H Q => ∃ (a : Addr) (kvs : List (Key × V)) (ks : List Int), vs = [.ref a] ∧ zs = [.bl b] ∧ Rd H a (.dK kvs) ∧ kvs.map (·.1) = ks.map Sum.inl ∧ ks.length ≤ 1000 ∧
  ∀ (ys : List Int) (p : Addr), ys.Perm ks → OrdB b ys → H p = none → Q (.ref p) (upd H p (.lst (ys.map V.int)))
theorem cr_sortDR {X : Cx} {b : Bool} (calm : X.calm = true) : CallRK X (.builtin "sorted") [Str.ofString "reverse"] (rSortDR b) := by
  intro pins s σ H vs zs us ws Q I r rz h
  obtain ⟨a, kvs, ks, rfl, rfl, hd, hk, hl, q⟩ := h
  obtain rfl := Vals.ref1 r
  obtain ⟨w1, rfl, e1⟩ := vals1 rz
  obtain rfl : w1 = Value.bool b := e1
  obtain ⟨z, lo, ps, rel, dd⟩ := dk_rd I.hok hd
  obtain ⟨ep, hat⟩ := dd.dictAt
  have keys : ps.map (·.1) = ks.map Sum.inl := rel.keys.symm.trans hk
  have len : ps.length = ks.length := by
    have e := congrArg List.length keys
    rw [List.length_map, List.length_map] at e
    exact e
  have line : ps.length ≤ sizeLine := by rw [len, sizeLine_eq]; omega
  refine PyProof.Rows.call_function_entry_kw PyProof.Rows.kind_sorted PyProof.Rows.plain_sorted PyProof.Rows.entry_sorted (PyProof.Rows.args_sorted_rev _ _) ?_
  unfold Builtin.«sorted»; refine wpAny_bind (m := checkCount "sorted" 1 1 _) (wpAny_pure ?_)
  refine wpAny_bind (PySem.W.kdu_collect (A := X.A.in1) (PySem.W.kdl_dict (knd := mixKind X.prog X.w) (kvs := ps) (ep := ep) lo) (I.ok.hd calm) hat line fun h' tk acc k ac => ?_)
  have al : acc.toList.length = ks.length := by rw [Array.length_toList, ac.1, len]
  have isI : IntsAre acc.toList ks := ints_each al fun j v e => by
    obtain ⟨x, y, g1, g2⟩ := ac.2 j v (by rw [← Array.getElem?_toList]; exact e)
    have g3 : (ps.map (·.1))[j]? = some x := by rw [List.getElem?_map, g1]; rfl
    rw [keys, List.getElem?_map] at g3
    cases g4 : ks[j]? with
    | none => rw [g4] at g3; cases g3
    | some i =>
      rw [g4] at g3
      have g5 : Sum.inl i = x := Option.some.inj g3
      subst g5
      rcases keyIs_shape (show keyIs (Sum.inl i) v = true from g2) with ⟨c, t, ek, ev⟩ | ⟨c, t, ek, ev⟩
      · cases ek
        exact ⟨i, t, rfl, ev⟩
      · cases ek
  have J : Inv X pins σ H { s with heap := h', toks := tk } := I.kept k
  have al2 : acc.toList.length ≤ sizeLine := by rw [al, sizeLine_eq]; omega
  refine wpAny_bind (wpAny_newList ?_ al2)
  have at_ : (h'.push (seqObj "list" acc.toList.toArray 0)).get? h'.objs.size = some (seqObj "list" acc.toList.toArray 0) := Heap.get?_push_size _ rfl
  show wpAny _ _ _ _ _ { s with heap := h'.push (seqObj "list" acc.toList.toArray 0), toks := tk }
  refine wpAny_bind (wpAny_holding (wpAny_call_entry_kw PyProof.Rows.slot_list_sort ⟨_, at_, rfl⟩ PyProof.Rows.entry_list_sort ?_ (PyProof.Rows.args_list_sort_rev _ _)))
  refine SrtR.list_sort_ordR (s := { s with heap := h'.push (seqObj "list" acc.toList.toArray 0), toks := tk }) SrtO.swo_int at_ al2 (fun h2 => SrtO.ints_sortable isI h2) fun out h1 h2 => ⟨_, rfl, ?_⟩
  obtain ⟨ys, k1, k2, k3⟩ := SrtR.ints_outR isI h1 h2
  obtain ⟨e', he'⟩ := PyProof.Rows.sortedHeap_at (vs := acc.toList) (out := (if b = true then out.toArray.reverse else out.toArray)) at_
  have hlen : (ys.map V.int).length ≤ sizeLine := by
    rw [List.length_map, k2.length_eq, sizeLine_eq]
    omega
  have e0 : ((if b = true then out.toArray.reverse else out.toArray).toList).toArray = (if b = true then out.toArray.reverse else out.toArray) := Array.toArray_toList ..
  refine wpAny_pure ⟨_, rfl, .ref h'.objs.size, upd H h'.objs.size (.lst (ys.map V.int)), J.laid (t' := tk) (fun c u e => ?_) (Nat.le_refl _) (show ObjOk X.prog X.w _ _ _ (.lst (ys.map V.int)) from ⟨hlen, _, e', vals_of_ints k1, by rw [e0]; exact he'⟩), rfl, q ys _ k2 k3 (J.hok.fresh (Nat.le_refl _))⟩
  have lt : c < h'.objs.size := Heap.lt_size e
  rw [PyProof.Rows.sortedHeap_old (Nat.ne_of_lt lt) (by rw [size_push']; exact Nat.lt_succ_of_lt lt)]
  exact Heap.get?_push_of_some _ e
end Lj
set_option Elab.async false
set_option linter.all false
set_option maxRecDepth 100000
set_option maxHeartbeats 1000000
namespace Lj
open PySem PySem.Spec PyProof.Rows L2
theorem un1 {k : Nat} {A : Around} (hr : Room k A) : A.units + 1 < cLine := by
  have := hr.un
  omega
theorem ifNN {c A B : Prop} [Decidable c] (h : c) (b : B) : if (!decide c) = true then A else B := by
  rw [decide_eq_true h]
  exact b
/-! ### a walk over a list or a tuple -/
theorem turn_to {P : Program} {w : World} {K : PySem.W.Frag} {tg : Expr} {J J' : It} {fp : List Addr} {it : Addr} {tn : Nat → Heap → Prop} (t : Turn P w K tg J fp it tn) (hg : ∀ i H, J'.go i H → J.go i H) (hy : ∀ i H x H', J'.go i H → J.yld i H x H' → J'.yld i H x H') (hs : ∀ i H, J'.stop i H → J.stop i H) : Turn P w K tg J' fp it tn where
  mem := t.mem
  obj := t.obj
  keep := t.keep
  item := fun X e1 e2 e3 e4 i pins s σ H E I fo st g => wpAny_mono (t.item X e1 e2 e3 e4 i pins s σ H E I fo st (hg i H g)) (fun r s1 ⟨u, eu, q⟩ => ⟨u, eu, wpAny_mono q (fun _ s2 ⟨x, H', I', rx, y, st', nn⟩ => ⟨x, H', I', rx, hy i H x H' g y, st', nn⟩) fun _ _ z => z⟩) fun _ _ z => z
  done := fun X e1 e2 e3 e4 i pins s σ H E I fo st g => t.done X e1 e2 e3 e4 i pins s σ H E I fo st (hs i H g)
  self := t.self
def ItG (G : Hp → Prop) (xs : List V) : It := ⟨fun i H => i < xs.length ∧ G H, fun i H x H' => H' = H ∧ xs[i]? = some x, fun i H => i = xs.length ∧ G H⟩
theorem walk_G2 {G : Hp → Prop} {xs : List V} : Walk (ItG G xs) xs.length G (YAt xs) := ⟨fun i _ hi q => ⟨hi, q⟩, fun _ q => ⟨rfl, q⟩, fun _ _ _ _ _ _ y => y⟩
/-- as long as G holds, xs stands at a, as a list or as a tuple -/
def SqG (K : PySem.W.Frag) (a : Addr) (xs : List V) (G : Hp → Prop) : Prop := (∀ H, G H → SqL K H a xs) ∨ (∀ H, G H → SqT K H a xs)
def iLT (K : PySem.W.Frag) (tl : TE) : TI := fun σ H R => tl σ H fun x H1 => ∃ (a : Addr) (xs : List V) (G : Hp → Prop), x = .ref a ∧ SqG K a xs G ∧ G H1 ∧ R (ItG G xs) H1
theorem pi_LT {X : Cx} {tg l : Expr} {tl : TE} (hl : PE X l tl) : PI X tg l (iLT X.K tl) := by
  refine ⟨fun pins s σ H R I h => thn (hl.run pins s σ H _ I h) fun v s1 ⟨x, H1, I1, r1, a, xs, G, e, sg, g, q⟩ => ?_⟩
  subst e
  cases r1
  have fp : ∀ b ∈ [s1.heap.objs.size], FpOk X pins H1 b := fun b hb => by
    rw [List.mem_singleton.mp hb]
    exact I1.fpOk (Nat.le_refl _) (I1.hok.fresh (Nat.le_refl _))
  have up : ∀ (o : Obj), Inv X pins σ H1 { s1 with heap := s1.heap.push o } := fun o => I1.kept (t' := s1.toks) fun b u e => Heap.get?_push_of_some _ e
  rcases sg with sg | sg
  · obtain ⟨its, rv, p, _⟩ := I1.list (sg H1 g)
    refine wpAny_pyIter_list p.isList ⟨s1.heap.objs.size, [s1.heap.objs.size], _, _, H1, rfl, up _, turn_to (J' := ItG G xs) (turn_list a _) (fun i H ⟨hi, g⟩ => ⟨xs, xs[i], sg H g, List.getElem?_eq_getElem hi⟩) (fun i H x H' ⟨_, g⟩ y => ⟨y.1, y.2 xs (sg H g)⟩) (fun i H ⟨e, g⟩ => ⟨xs, sg H g, Nat.le_of_eq e.symm⟩), ⟨_, Heap.get?_push_size _ rfl, rfl, rfl⟩, fp, q⟩
  · obtain ⟨its, rv, p, _⟩ := I1.tuple (sg H1 g)
    refine wpAny_pyIter_tuple (show s1.heap.IsTuple a its.toArray from p) ⟨s1.heap.objs.size, [s1.heap.objs.size], _, _, H1, rfl, up _, turn_to (J' := ItG G xs) (turn_tuple a _) (fun i H ⟨hi, g⟩ => ⟨xs, xs[i], sg H g, List.getElem?_eq_getElem hi⟩) (fun i H x H' ⟨_, g⟩ y => ⟨y.1, y.2 xs (sg H g)⟩) (fun i H ⟨e, g⟩ => ⟨xs, sg H g, Nat.le_of_eq e.symm⟩), ⟨_, Heap.get?_push_size _ rfl, rfl, rfl⟩, fp, q⟩
/-! ### tuple * number, also once -/
theorem paired_app {α β : Type} {F : α → β → Prop} : ∀ {a c : List α} {b d : List β}, Paired F a b → Paired F c d → Paired F (a ++ c) (b ++ d)
  | _, _, _, _, .nil, s => s
  | _, _, _, _, .cons r t, s => .cons r (paired_app t s)
/-! ### rows of field elements -/
def row (ns : List Int) : Row := fun i => ns.getD i 0
def Fe (p : Int) (ns : List Int) : Prop := ∀ a ∈ ns, 0 ≤ a ∧ a < p
theorem row_get {ns : List Int} {i : Nat} {a : Int} (h : ns[i]? = some a) : row ns i = a := by
  unfold row
  rw [List.getD_eq_getElem?_getD, h]
  rfl
theorem row_at {ns : List Int} {i : Nat} (h : i < ns.length) : ns[i]? = some (row ns i) := by
  unfold row
  rw [List.getD_eq_getElem?_getD, List.getElem?_eq_getElem h]
  rfl
theorem row_out {ns : List Int} {i : Nat} (h : ns.length ≤ i) : row ns i = 0 := by
  unfold row
  rw [List.getD_eq_getElem?_getD, List.getElem?_eq_none h]
  rfl
theorem Fe.row {p : Int} {ns : List Int} (h : Fe p ns) {i : Nat} (hi : i < ns.length) : 0 ≤ row ns i ∧ row ns i < p := h _ (by
  have e := row_at hi
  exact (List.getElem?_eq_some_iff.mp e).2 ▸ List.getElem_mem _)
theorem row_int {ns : List Int} {i : Nat} (h : i < ns.length) : (ns.map V.int)[i]? = some (.int (row ns i)) := by
  rw [List.getElem?_map, row_at h]
  rfl
theorem atI_row {ns : List Int} {i : Nat} (h : i < ns.length) : atI (ns.map V.int) (i : Int) = some (.int (row ns i)) := atI_nat (row_int h)
theorem Fe.mod {p : Int} (hp : 0 < p) (f : Int → Int) (ns : List Int) : Fe p (ns.map fun a => f a % p) := fun a m => by
  obtain ⟨b, _, rfl⟩ := List.mem_map.mp m
  exact ⟨Int.emod_nonneg _ (by omega), Int.emod_lt_of_pos _ hp⟩
theorem row_map {f : Int → Int} {ns : List Int} {i : Nat} (h : i < ns.length) : row (ns.map f) i = f (row ns i) := by
  refine row_get ?_
  rw [List.getElem?_map, row_at h]
  rfl
theorem row_zip {f : Int → Int → Int} {ns ms : List Int} {i : Nat} (h : i < ns.length) (h2 : i < ms.length) : row (List.zipWith f ns ms) i = f (row ns i) (row ms i) := by
  refine row_get ?_
  rw [List.getElem?_zipWith, row_at h, row_at h2]
theorem emod_dvd (p a : Int) : p ∣ a % p - a := by
  rw [Int.emod_def]
  exact ⟨-(a / p), by grind⟩
/-! ### leading equations, in the heap -/
structure Ent where
  c : Nat
  b : Addr
  es : List Int
def EntOk (p : Int) (N : Nat) (H : Hp) (e : Ent) : Prop := H e.b = some (.lst (e.es.map V.int)) ∧ e.es.length = N ∧ Fe p e.es ∧ e.c < N ∧ Begins e.c (row e.es)
def kvE (E : List Ent) : List (Key × V) := E.map fun e => (Sum.inl (e.c : Int), V.ref e.b)
theorem kvE_none {E : List Ent} {c : Nat} : valV (kvE E) (Sum.inl (c : Int)) = none ↔ ∀ e ∈ E, e.c ≠ c := by
  unfold kvE
  induction E with
  | nil => exact ⟨fun _ e m => absurd m List.not_mem_nil, fun _ => rfl⟩
  | cons a E ih =>
    rw [List.map_cons]
    by_cases h : a.c = c
    · rw [valV_pos (p := (Sum.inl (a.c : Int), V.ref a.b)) (by rw [h])]
      exact ⟨(fun z => by cases z), fun z => absurd h (z a List.mem_cons_self)⟩
    · rw [valV_neg (p := (Sum.inl (a.c : Int), V.ref a.b)) (by
        intro z
        have z2 : (a.c : Int) = (c : Int) := Sum.inl.inj z
        omega), ih]
      exact ⟨fun z e m => by
        rcases List.mem_cons.mp m with rfl | m
        · exact h
        · exact z e m, fun z e m => z e (List.mem_cons_of_mem _ m)⟩
theorem kvE_some {E : List Ent} {c : Nat} {v : V} (h : valV (kvE E) (Sum.inl (c : Int)) = some v) : ∃ e ∈ E, e.c = c ∧ v = .ref e.b := by
  unfold kvE at h
  induction E with
  | nil => cases h
  | cons a E ih =>
    rw [List.map_cons] at h
    by_cases k : a.c = c
    · rw [valV_pos (p := (Sum.inl (a.c : Int), V.ref a.b)) (by rw [k])] at h
      cases h
      exact ⟨a, List.mem_cons_self, k, rfl⟩
    · rw [valV_neg (p := (Sum.inl (a.c : Int), V.ref a.b)) (by
        intro z
        have z2 : (a.c : Int) = (c : Int) := Sum.inl.inj z
        omega)] at h
      obtain ⟨e, m, r⟩ := ih h
      exact ⟨e, List.mem_cons_of_mem _ m, r⟩
/-- v kills all rows -/
def Kl (p : Int) (N : Nat) (v : Nat → Int) (R : List (List Int)) : Prop := ∀ ns ∈ R, p ∣ dot N (row ns) v
def KlE (p : Int) (N : Nat) (v : Nat → Int) (E : List Ent) : Prop := ∀ e ∈ E, p ∣ dot N (row e.es) v
theorem KlE.snoc {p : Int} {N : Nat} {v : Nat → Int} {E : List Ent} {e : Ent} : KlE p N v (E ++ [e]) ↔ KlE p N v E ∧ p ∣ dot N (row e.es) v :=
  ⟨fun h => ⟨fun x m => h x (List.mem_append_left _ m), h e (List.mem_append_right _ List.mem_cons_self)⟩, fun h x m => by
    rcases List.mem_append.mp m with m | m
    · exact h.1 x m
    · rw [List.mem_singleton.mp m]
      exact h.2⟩
theorem Kl.snoc {p : Int} {N : Nat} {v : Nat → Int} {R : List (List Int)} {ns : List Int} : Kl p N v (R ++ [ns]) ↔ Kl p N v R ∧ p ∣ dot N (row ns) v :=
  ⟨fun h => ⟨fun x m => h x (List.mem_append_left _ m), h ns (List.mem_append_right _ List.mem_cons_self)⟩, fun h x m => by
    rcases List.mem_append.mp m with m | m
    · exact h.1 x m
    · rw [List.mem_singleton.mp m]
      exact h.2⟩
/-! ### keyword arguments of three, in the reverse order -/
end Lj
set_option Elab.async false
set_option linter.all false
set_option maxRecDepth 100000
set_option maxHeartbeats 2000000
/-! # errors of the program's own: __init__ says super().__init__(text), then stores one attribute -/
namespace Lj
open PySem PySem.W PySem.Calls PyProof.Rows PySem.HandSPX
/-! ### the text of __init__ -/
def eA (f : Str) (p1 p2 : Pos) : Arguments := { posonlyargs := [], args := [{ arg := "self", annotation := none, pos := p1 }, { arg := f, annotation := none, pos := p2 }], vararg := none, kwonlyargs := [], kw_defaults := [], kwarg := none, defaults := [] }
def eB (f m : Str) (p1 p2 p3 p4 p5 p6 q1 q2 q3 q4 : Pos) : List Stmt :=
  [.Expr (.Call (.Attribute (.Call (.Name "super" p1) [] [] p2) "__init__" p3) [.Constant (.str m) 0 p4] [] p5) p6, .Assign [.Attribute (.Name "self" q1) f q2] (.Name f q3) q4]
def eS (f : Str) : Scope := { kind := .function, names := [(PySem.Str.ofString "self", .local), (f, .local), (PySem.Str.ofString "__class__", .free), (PySem.Str.ofString "super", .globalImplicit)], isGenerator := false, isCoroutine := false, more := [] }
/-- a name that is none of the others in __init__ -/
structure Nm (f : Str) : Prop where
  s : (f == ("self" : Str)) = false
  c : (f == ("__class__" : Str)) = false
  u : (f == ("super" : Str)) = false
  d : (f == ("__debug__" : Str)) = false
  bd : ∀ (qual : Str) (p1 p2 : Pos) (b : List Stmt) (doc pm : Value) (an : Option Addr) (cdv ct : Value) (cc : Addr) (u v : Value), bindArgs (ksFn "__init__" qual (eA f p1 p2) b (eS f) .none .none doc pm an cdv ct cc) ⟨[u, v], []⟩ = pure [(("self" : Str), u), (f, v)]
  bk : ∀ (qual : Str) (p1 p2 : Pos) (b : List Stmt) (doc pm : Value) (an : Option Addr) (cdv ct : Value) (cc : Addr) (u v : Value), bindArgs (ksFn "__init__" qual (eA f p1 p2) b (eS f) .none .none doc pm an cdv ct cc) ⟨[u], [(f, v)]⟩ = pure [(("self" : Str), u), (f, v)]
theorem ev_super (qual m : Str) (sc : Scope) (L a cc : Addr) (cd : Value) (p3 p4 p5 p6 p7 : Pos) (h : (p5.endLine == p7.line) = true) : ∃ pl : Sem Bool, eval (.Call (.Attribute (.Call (.Name "super" p3) [] [] p4) "__init__" p5) [.Constant (.str m) 0 p6] [] p7) (ksEnv qual sc L a cd cc) = (do
      let ov ← attributeBase (.Call (.Name "super" p3) [] [] p4) "__init__" (ksEnv qual sc L a cd cc) (eval (.Call (.Name "super" p3) [] [] p4) (ksEnv qual sc L a cd cc))
      standAt p5.atName
      let (g, first) ← holding [ov] (getMethod ov "__init__" pl)
      callWith p7 g first (backTo p7 (starEach [.Constant (.str m) 0 p6] (ksEnv qual sc L a cd cc))) []) := by
  refine ⟨(do return (← importBound (.Call (.Name "super" p3) [] [] p4) (ksEnv qual sc L a cd cc)).getD true), ?_⟩
  show (do
    let ov ← attributeBase (.Call (.Name "super" p3) [] [] p4) "__init__" (ksEnv qual sc L a cd cc) (eval (.Call (.Name "super" p3) [] [] p4) (ksEnv qual sc L a cd cc))
    standAt p5.atName
    methodCall (.Call (.Name "super" p3) [] [] p4) "__init__" p5 p7 (ksEnv qual sc L a cd cc) ov 1 (backTo p7 (starEach [.Constant (.str m) 0 p6] (ksEnv qual sc L a cd cc))) (backToKw p7 (keywordEach [] (ksEnv qual sc L a cd cc)))) = _
  congr 1; funext ov; congr 1; funext u
  unfold methodCall methodCallPos
  simp only [h, Bool.or_true, if_true, pure_bind]
  rfl
theorem nm_size : Nm "size" := ⟨by decide +kernel, by decide +kernel, by decide +kernel, by decide +kernel, fun _ _ _ _ _ _ _ _ _ _ _ _ => rfl, fun _ _ _ _ _ _ _ _ _ _ _ _ => rfl⟩
theorem nm_depth : Nm "depth" := ⟨by decide +kernel, by decide +kernel, by decide +kernel, by decide +kernel, fun _ _ _ _ _ _ _ _ _ _ _ _ => rfl, fun _ _ _ _ _ _ _ _ _ _ _ _ => rfl⟩
/-- what the written part says of the error x, at C, and of its __init__, at fI -/
structure ErrTxt (P : Program) (K : Frag) (mg : Str → Option Value) (x f : Str) (C fI : Addr) : Prop where
  nm : Nm f
  gC : mg x = some (.ref C)
  cls : ∃ nm q N bs bm sn sub ab col dd k0 k1 k2 k3 k5, K.lookup C = some (excClassObj nm q C N bs bm true sn sub ab col dd k0 k1 k2 k3 k5 "ValueError.__new__") ∧ refsVE bm = true
  sa : findIn K (.ref C) "__setattr__" = some (some (.builtin "object.__setattr__"))
  ga : findIn K (.ref C) "__getattribute__" = some (some (.builtin "BaseException.__getattribute__"))
  gg : findIn K (.ref C) "__getattr__" = some none
  noN : findIn K (.ref C) f = some none
  iC : findIn K (.ref C) "__init__" = some (some (.ref fI))
  tC : typeIn K (.ref fI) = some (.type "function")
  kC : keepIn K (.ref C) = true
  exC : subIn K (.ref C) (.type "BaseException") = some true
  veC : subIn K (.ref C) (.type "ValueError") = some true
  tyC : typeIn K (.ref C) = some (.type "type")
  hdC : hasDictIn K C = true
  mrC : mroIn K C (.ref C) = some true
  suC : ks_superIn K C C "__init__" = some (some (.builtin "ValueError.__init__"))
  op : nsIn K cStatics "thirdparty.any" = some none
  gS : mg "super" = none
  top : (P.main.scope.names.lookup ("super" : Str)).isSome = false
  fn : ∃ (oc : Value) (od : Option Addr) (qual m : Str) (doc pm : Value) (an : Option Addr) (cda cc : Addr) (ct : Value) (osl : Array (Option Value)) (p1 p2 p3 p4 p5 p6 p7 p8 q1 q2 q3 q4 : Pos)
    (ccl : Value) (cdd : Option Addr) (vs : Array Value) (ccs : Array (Option Value)) (file : Str) (tf : Tok) (cl : Value) (cld : Option Addr) (csl : Array (Option Value)),
    K.lookup fI = some ⟨oc, od, .func (ksFn "__init__" qual (eA f p1 p2) (eB f m p3 p4 p5 p6 p7 p8 q1 q2 q3 q4) (eS f) .none .none doc pm an (.ref cda) ct cc), osl⟩ ∧ codeIn K (.ref cda) qual = true ∧
      K.lookup cda = some ⟨ccl, cdd, .fields vs, ccs⟩ ∧ vs[2]? = some (.str file tf) ∧ ((P.main.file : Str) == file) = true ∧ (p5.endLine == p7.line) = true ∧ K.lookup cc = some ⟨cl, cld, .cell (some (.ref C)), csl⟩
theorem one_size (v : Value) : [v].length ≤ sizeLine := by
  rw [sizeLine_eq]
  exact (by decide : 1 ≤ 16777216)
/-- what __init__ leaves of a fresh exception at x -/
structure InitEnd (f : Str) (h h' : Heap) (x C dx : Addr) (v : Value) : Prop where
  keep : ∀ b o, b ≠ x → h.get? b = some o → h'.get? b = some o
  obj : ∃ t1 : Addr, h'.get? x = some { cls := .ref C, dict := some dx, data := .fields #[.ref t1, .none, .none, .none, .bool false, .none] }
  dbig : h.objs.size ≤ dx
  dne : dx ≠ x
  ns : h'.Ns1 dx (fun y => if y = f then some v else none)
/-- a made error -/
structure OwnMade (f : Str) (h h' : Heap) (e C d : Addr) (v : Value) : Prop where
  keep : ∀ b o, h.get? b = some o → h'.get? b = some o
  new : h.objs.size ≤ e
  obj : ∃ oe vs, h'.get? e = some oe ∧ oe.cls = .ref C ∧ oe.dict = some d ∧ oe.data = .fields vs ∧ vs[1]? = some .none
  dbig : h.objs.size ≤ d
  dne : d ≠ e
  ns : h'.Ns1 d (fun y => if y = f then some v else none)
section
variable {prog : Program} {w : World} {A : Around} {E : Value → Shared → Prop} {R : Result → Shared → Prop} {s : Shared} {K : Frag} {mg mb : Str → Option Value} {x f : Str} {C fI : Addr}
theorem lk_self {f : Str} : (eS f).names.lookup ("self" : Str) = some .local := rfl
theorem lk_f (n : Nm f) : (eS f).names.lookup f = some .local := by
  have h := n.s
  show List.lookup f [(PySem.Str.ofString "self", NameKind.local), (f, .local), (PySem.Str.ofString "__class__", .free), (PySem.Str.ofString "super", .globalImplicit)] = _
  rw [List.lookup_cons]
  have h2 : (f == PySem.Str.ofString "self") = false := h
  rw [h2, List.lookup_cons, beq_self_eq_true]
theorem flip {a b : Str} (h : (a == b) = false) : (b == a) = false := by
  cases e : b == a with
  | false => rfl
  | true =>
    have := beq_iff_eq.mp e
    rw [this, beq_self_eq_true] at h
    cases h
theorem lk_class (n : Nm f) : (eS f).names.lookup ("__class__" : Str) = some .free := by
  have h := flip n.c
  show List.lookup (PySem.Str.ofString "__class__") [(PySem.Str.ofString "self", NameKind.local), (f, .local), (PySem.Str.ofString "__class__", .free), (PySem.Str.ofString "super", .globalImplicit)] = _
  rw [List.lookup_cons, show (PySem.Str.ofString "__class__" == PySem.Str.ofString "self") = false by decide +kernel, List.lookup_cons, show (PySem.Str.ofString "__class__" == f) = false from h, List.lookup_cons, beq_self_eq_true]
theorem lk_super (n : Nm f) : (eS f).names.lookup ("super" : Str) = some .globalImplicit := by
  have h := flip n.u
  show List.lookup (PySem.Str.ofString "super") [(PySem.Str.ofString "self", NameKind.local), (f, .local), (PySem.Str.ofString "__class__", .free), (PySem.Str.ofString "super", .globalImplicit)] = _
  rw [List.lookup_cons, show (PySem.Str.ofString "super" == PySem.Str.ofString "self") = false by decide +kernel, List.lookup_cons, show (PySem.Str.ofString "super" == f) = false from h, List.lookup_cons, show (PySem.Str.ofString "super" == PySem.Str.ofString "__class__") = false by decide +kernel, List.lookup_cons, beq_self_eq_true]
theorem err_initA (T : ErrTxt prog K mg x f C fI) {e t0 : Addr} {v : Value} {as : Args} (hb : ∀ (qual : Str) (p1 p2 : Pos) (b : List Stmt) (doc pm : Value) (an : Option Addr) (cdv ct : Value) (cc : Addr), bindArgs (ksFn "__init__" qual (eA f p1 p2) b (eS f) .none .none doc pm an cdv ct cc) as = pure [(("self" : Str), .ref e), (f, v)]) (X : K.In s.heap) (hlim : s.heap.NoLimit) (hG : s.heap.Ns mainGlobals mg) (hB : s.heap.Ns builtinsNs mb) (hmb : ∀ x : Str, x ≠ "__name__" → mb x = bootBuiltins x)
    (hx : s.heap.get? e = some (excO C t0)) (hnx : K.lookup e = none) (hroom : A.depth < recursionLimit)
    (hq : ∀ h' tk dx, InitEnd f s.heap h' e C dx v → R (.ok (.ret .none)) { s with heap := h', toks := tk }) :
    codeAny (model prog w) A (.call (.ref fI) as) R s := by
  obtain ⟨oc, od, qual, m, doc, pm, an, cda, cc, ct, osl, p1, p2, p3, p4, p5, p6, p7, p8, q1, q2, q3, q4, ccl, cdd, vs, ccs, file, tf, cl, cld, csl, ho, hcd, hcode, hvs, hfile, hpos, hcell⟩ := T.fn
  obtain ⟨nm, q, N, bs, bm, sn, sub, ab, col, dd, k0, k1, k2, k3, k5, hC, hbm⟩ := T.cls
  have hcl : clsIn K C = some { name := nm, bases := bs, mro := .ref C :: bm, ns := N, qualname := q, hasDict := true, slotNames := sn, subclasses := sub, abstract := ab, collection := col, hasDel := false } := by unfold clsIn; rw [hC] <;> rfl
  have lf := lk_f T.nm
  have lc := lk_class T.nm
  have ls := lk_super T.nm
  have n := T.nm
  refine ks_codeAny_call_defAt (fd := ksFn "__init__" qual (eA f p1 p2) (eB f m p3 p4 p5 p6 p7 p8 q1 q2 q3 q4) (eS f) .none .none doc pm an (.ref cda) ct cc) (body := eB f m p3 p4 p5 p6 p7 p8 q1 q2 q3 q4) (binds := [("self", .ref e), (f, v)]) hroom (X _ _ ho) rfl hlim (codeRec_of X hcd) rfl
    (BindsTo.of_eq (hb _ _ _ _ _ _ _ _ _ _)) (fun y hy => ?_) (fun y hy => ?_) (fun h₁ hns hk₁ => ?_) rfl rfl rfl
  · rcases List.mem_cons.mp hy with rfl | hy
    · intro z; cases z
    rcases List.mem_cons.mp hy with rfl | hy
    · intro z; cases z
    rcases List.mem_cons.mp hy with rfl | hy
    · intro z; cases z
    rcases List.mem_cons.mp hy with rfl | hy
    · intro z; cases z
    cases hy
  · rcases List.mem_cons.mp hy with rfl | hy
    · exact lk_self
    rcases List.mem_cons.mp hy with rfl | hy
    · exact lf
    cases hy
  have hL : (fun y => ([("self", .ref e), (f, v)] : List (Str × Value)).reverse.lookup y) ("self" : Str) = some (.ref e) := by
    show List.lookup _ [(f, v), (("self" : Str), Value.ref e)] = _
    rw [List.lookup_cons, flip n.s, List.lookup_cons, beq_self_eq_true]
  have hV : (fun y => ([("self", .ref e), (f, v)] : List (Str × Value)).reverse.lookup y) f = some v := by
    show List.lookup _ [(f, v), (("self" : Str), Value.ref e)] = _
    rw [List.lookup_cons, beq_self_eq_true]
  obtain ⟨hp, g, d, tk, os⟩ := s
  have hx₁ := hk₁ _ _ hx
  have X₁ : K.In h₁ := X.keeps hk₁
  have Le : e ≠ hp.objs.size := Nat.ne_of_lt (Heap.lt_size hx)
  have I₁ : InstAt h₁ e (excO C t0) C none := ⟨hx₁, rfl, rfl, trivial⟩
  -- super().__init__(m)
  show PySem.wpAt _ _ _ (execs [_, _] (ksEnv qual (eS f) hp.objs.size fI (.ref cda) cc)) _ _ _
  obtain ⟨pl, ev⟩ := ev_super qual m (eS f) hp.objs.size fI cc (.ref cda) p3 p4 p5 p6 p7 hpos
  refine ks_wpAt_execs_cons (ks_wpAt_Expr_any (ks_wpAt_MethodCall (pl := pl) ?_ ev) rfl rfl)
  refine ks_wpAt_super_base (env := ksEnv qual (eS f) hp.objs.size fI (.ref cda) cc) ls lc (by decide) rfl (X₁ _ _ ho) rfl rfl rfl (X₁ _ _ hcode) rfl hvs hfile T.top ?_
  refine ks_loadName_global rfl ls (loadGlobal_builtin (env := ksEnv qual (eS f) hp.objs.size fI (.ref cda) cc) (hG.keeps hk₁) T.gS (hB.keeps hk₁) ((hmb _ (by decide +kernel)).trans (by first | boot_by_name | rfl | kernel_rfl)) ⟨rfl, ?_⟩)
  refine wpAny_loadName_free rfl lc rfl ⟨_, X₁ _ _ hcell, rfl⟩ ?_
  refine wpAny_loadName_local rfl lk_self hns hL ?_
  refine ks_wpAny_isType_cls (X₁ _ _ hC) rfl ⟨rfl, ?_⟩
  refine ks_wpAny_call_super (X₁ _ _ hC) rfl hx₁ rfl (fun c z => by cases z) (looks_mroIn X₁ T.mrC) (fun h₂ hso k₂ => ?_)
  have X₂ : K.In h₂ := X₁.keeps k₂
  have hx₂ := k₂ _ _ hx₁
  have I₂ : InstAt h₂ e (excO C t0) C none := ⟨hx₂, rfl, rfl, trivial⟩
  have hsu : alongIn K "__init__" (((Value.ref C :: bm).dropWhile (· != .ref C)).drop 1) = some (some (.builtin "ValueError.__init__")) := by
    have z := T.suC
    unfold ks_superIn at z
    rw [hcl] at z
    exact z
  refine kxs_getMethod kxs_ValueError hso (looks_opaque X₂ T.op) (l₀ := .ref C :: bm) ((looks_clsIn X₂ hcl).andThen .now) rfl X₂ hsu (I₂.type.andThen (looks_subIn X₂ T.veC)) (ks_ne X₂ I₂ hcl) (by decide +kernel) ?_
  have hmw : (h₂.push (kxs_mw "ValueError.__init__" e)).get? h₂.objs.size = some (kxs_mw "ValueError.__init__" e) := Heap.get?_push_at rfl rfl
  have k₃ : ∀ b o, h₂.get? b = some o → (h₂.push (kxs_mw "ValueError.__init__" e)).get? b = some o := fun b o z => Heap.get?_push_of_some _ z
  generalize h₂.push (kxs_mw "ValueError.__init__" e) = h₃ at hmw k₃
  have X₃ : K.In h₃ := X₂.keeps k₃
  have hx₃ := k₃ _ _ hx₂
  refine kxs_callWith (i := "ValueError.__init__") (x := e) (by rfl) ?_
  refine evalArgs_plain (spliced_cons (Constant_str (k := 0) (pos := p6) ?_))
  refine spliced_nil ⟨hmw, ?_⟩
  show wpAny _ _ (call (.ref h₂.objs.size) [Value.str m _] []) _ _ _
  refine wpAny_call (codeAny_of_tree ?_)
  show wpAny _ _ (callAny (.ref h₂.objs.size) ⟨[Value.str m _], []⟩) _ _ _
  simp only [callAny]
  refine wpAny_bind (wpAny_load hmw ?_)
  simp only [kxs_mw, show (Value.type "method-wrapper" == Value.type "method" || Value.type "method-wrapper" == Value.type "builtin_function_or_method" || Value.type "method-wrapper" == Value.type "method-wrapper") = true by decide, if_true]
  refine KFB.if_so (by decide) ?_
  refine wpAny_bind (check_bound_init F.excBase_ValueError.toExcCallFacts (X₃ _ _ hC) hx₃ rfl ?_)
  refine wpAny_bind (wpAny_pure (wpAny_pure ?_))
  refine ⟨plainId_quiet F.excBase_ValueError.init.plain _, codeAny_builtin F.excBase_ValueError.initEntry ?_⟩
  refine exc_init_tree (cls := .ref C) (t0 := t0) (dv := none) (c2 := .none) (c3 := .none) (b4 := .bool false) hx₃ (one_size _) fun h₄ k₄ hx₄ _ => ?_
  -- self.f = f
  have k13 : ∀ b o, h₁.get? b = some o → h₃.get? b = some o := fun b o z => k₃ b o (k₂ b o z)
  have X₄ : K.In h₄ := fun b o z => k₄ b o (fun y => by rw [y, hnx] at z; cases z) (X₃ b o z)
  have hns₄ : h₄.Ns hp.objs.size (fun y => ([("self", .ref e), (f, v)] : List (Str × Value)).reverse.lookup y) := hns.at fun o z => k₄ _ o (Ne.symm Le) (k13 _ o z)
  show PySem.wpAt _ _ _ (execs [_] (ksEnv qual (eS f) hp.objs.size fI (.ref cda) cc)) _ _ _
  refine ks_wpAt_execs_cons (ks_wpAt_Assign_Attr (PySem.wpAt_of_wpAny ?_) rfl)
  refine wpAny_Name (wpAny_loadName_local rfl lf hns₄ hV ?_) n.d
  refine wpAny_Name (wpAny_loadName_local rfl lk_self hns₄ hL ?_) (by decide +kernel)
  refine set_plain X₄ (ox := excO C _) (od := none) ⟨hx₄, rfl, rfl, trivial⟩ T.sa ?_
  refine exc_osa X₄ hx₄ hcl (show refsVE (.ref C :: bm) = true from hbm) rfl T.noN (fun h₅ tk₅ dx k₅ dn dne hx₅ hn₅ => ?_)
  refine PySem.wpAt_of_wpAny (wpAny_execs_nil (hq h₅ tk₅ dx ⟨fun b o hb z => k₅ b o hb (k₄ b o hb (k13 b o (hk₁ b o z))), ⟨_, hx₅⟩, ?_, dne, hn₅⟩))
  have z : hp.objs.size < h₄.objs.size := hns₄.lt
  exact Nat.le_of_lt (Nat.lt_of_lt_of_le z dn)
theorem err_made (T : ErrTxt prog K mg x f C fI) {v : Value} (X : K.In s.heap) (hlim : s.heap.NoLimit) (hG : s.heap.Ns mainGlobals mg) (hB : s.heap.Ns builtinsNs mb) (hmb : ∀ x : Str, x ≠ "__name__" → mb x = bootBuiltins x) (hroom : A.depth + 1 < recursionLimit)
    (hq : ∀ h' tk e d, OwnMade f s.heap h' e C d v → R (.ok (.ret (.ref e))) { s with heap := h', toks := tk }) :
    codeAny (model prog w) A (.call (.ref C) ⟨[v], []⟩) R s := by
  obtain ⟨nm, q, N, bs, bm, sn, sub, ab, col, dd, k0, k1, k2, k3, k5, hC, hbm⟩ := T.cls
  obtain ⟨hp, g, dr, tk, os⟩ := s
  have k : ∀ b o, hp.get? b = some o → ((hp.push (kdv_tup [v])).push (excO C hp.objs.size)).get? b = some o := fun b o e => Heap.get?_push_of_some _ (Heap.get?_push_of_some _ e)
  have hget : ((hp.push (kdv_tup [v])).push (excO C hp.objs.size)).get? (hp.objs.size + 1) = some (excO C hp.objs.size) := by heap_get
  have hnx : K.lookup (hp.objs.size + 1) = none := by
    cases e : K.lookup (hp.objs.size + 1) with
    | none => rfl
    | some o =>
      have z : hp.get? (hp.objs.size + 1) = some o := X _ _ e
      exact absurd (Nat.lt_of_succ_lt (Heap.lt_size z)) (Nat.lt_irrefl _)
  refine call_own F.excBase_ValueError (fun X => refsVE_contains X bm hbm) (X _ _ hC) (looks_findIn X T.iC) (fun self => bind_fn X self T.tC) (one_size v) ?_
  refine err_initA (s := ⟨(hp.push (kdv_tup [v])).push (excO C hp.objs.size), g, dr, tk, os⟩) T (fun _ _ _ _ _ _ _ _ _ _ => T.nm.bd _ _ _ _ _ _ _ _ _ _ _ _) (X.keeps k) (hlim.keeps k) (hG.keeps k) (hB.keeps k) hmb hget hnx ?_ fun h' tk' dx ⟨k', hx, dn, dne, hns⟩ => ?_
  · show A.depth + 1 < recursionLimit
    exact hroom
  · have old : ∀ b o, hp.get? b = some o → h'.get? b = some o := fun b o e => k' b o (Nat.ne_of_lt (Nat.lt_succ_of_lt (Heap.lt_size e))) (k b o e)
    have z : hp.objs.size + 1 + 1 ≤ dx := by
      first
        | (simpa only [Heap.size_push] using dn)
        | exact dn
        | (have q := dn; rw [Heap.size_push, Heap.size_push] at q; exact q)
    obtain ⟨t1, hx⟩ := hx
    exact ⟨rfl, hq h' tk' (hp.objs.size + 1) dx ⟨old, Nat.le_succ _, ⟨_, _, hx, rfl, rfl, rfl, rfl⟩, Nat.le_trans (Nat.le_trans (Nat.le_succ _) (Nat.le_succ _)) z, dne, hns⟩⟩
end
end Lj
set_option Elab.async false
set_option linter.all false
set_option maxRecDepth 100000
set_option maxHeartbeats 2000000
/-! # errors: made, raised, caught and kept as a value, asked -/
namespace Lj
open PySem PySem.Spec PyProof.Rows L2
/-! ### promises of defs that may raise, where nothing is being shown -/
structure FnE (P : Program) (w : World) (K : PySem.W.Frag) (mg : Str → Option Value) (base : Heap) (k : Nat) (f : Addr) (fd : FuncData) (ps : List Str) (sp : Sp) : Prop where
  len : ∀ vs H Q E, sp vs H Q E → vs.length = ps.length
  run : ∀ (A : Around) (out : List Env) (s : Shared) (H : Hp) (as : Args) (us : List Value) (vs : List V) (Q : VK) (E : XK), A.guards = some [] → Room k A → Env0 P w K mg base A out s H →
    BindsTo s fd as (ps.zip us) → Vals vs us → sp vs H Q E → codeAny (model P w) A (.call (.ref f) as) (CR (L2.CX P w) out P w H s Q E) s
section
variable {P : Program} {w : World} {K : PySem.W.Frag} {mg : Str → Option Value} {base : Heap} {j k : Nat} {f : Addr} {fd : FuncData} {ps : List Str} {sp sp' : Sp}
theorem FnE.up (F : FnE P w K mg base j f fd ps sp) (h : j ≤ k) : FnE P w K mg base k f fd ps sp := ⟨F.len, fun A out s H as us vs Q E g r => F.run A out s H as us vs Q E g (r.mono h)⟩
theorem FnE.weak (F : FnE P w K mg base k f fd ps sp) (h : ∀ vs H Q E, sp' vs H Q E → sp vs H Q E) : FnE P w K mg base k f fd ps sp' :=
  ⟨fun vs H Q E q => F.len vs H Q E (h _ _ _ _ q), fun A out s H as us vs Q E g r e b v q => F.run A out s H as us vs Q E g r e b v (h _ _ _ _ q)⟩
/-- by the def's body -/
theorem FnE.body {x qual : Str} {st : Stmt} {N : List Str} (F : Fun K x qual st f fd) (S : FnScope N ps (defScope st)) (len : ∀ vs H Q E, sp vs H Q E → vs.length = ps.length)
    (hb : ∀ (cdv : Value) (A : Around) (out : List Env) (s : Shared) (H : Hp) (vs : List V) (Q : VK) (E : XK), A.guards = some [] → Room k (A.deeper (envOfC qual (defScope st) s.heap.objs.size f cdv)) → sp vs H Q E →
      ∃ t, PSs (cxOf (L2.CX P w) P w K mg base N qual (defScope st) f cdv A out s H E) (defBody st) t ∧ t { nx := fun _ H' => Q .non H', rt := Q } (start N vs) H) : FnE P w K mg base (k + 1) f fd ps sp := by
  obtain ⟨c0, c1, c2, c3, c4, c5, cd, c6, c7, rfl, look, code⟩ := F.ex
  refine ⟨len, fun A out s H as us vs Q E hg room env bind vals want => ?_⟩
  have ln := len _ _ _ _ want
  have old : ∀ b o, base.get? b = some o → s.heap.get? b = some o := fun b o e => (env.bs b o e).1
  have here : K.In s.heap := env.mod.kin.keeps old
  refine codeAny_call_function room.depth (here _ _ look) rfl S.co S.gen rfl (PySem.W.codeRec_of here code) (bind _ _ _ _ ?_)
  refine wpAny_newFunctionEnv_cells S.kind (fun ⟨n, v⟩ m => (S.par n (List.of_mem_zip m).1).elim .inl fun c => .inr ⟨c, PySem.W.cellsFrom_some _ _ _ (.inl c)⟩) fun en he s1 x => ?_
  subst he
  refine ⟨(env.mod.nolimit.keeps old).keeps x.toInCall.keep, codeAny_func ?_⟩
  obtain ⟨t, rule, holds⟩ := hb cd A out s H vs Q E hg (room.deeper _) want
  have start0 := inv_start (CX := L2.CX P w) (E := E) S room.hd env ln vals x
  refine wpAny_mono (rule.run [] s1 (start N vs) H _ start0 holds) (fun r s' z => ?_) fun _ _ z => z
  match r, z with
  | .ret u, ⟨v, σ', H', J, rv, q⟩ => exact ⟨v, H', J.os, J.bare, J.base, J.hok, rv, q⟩
  | .next, ⟨σ', H', J, q⟩ => exact ⟨.non, H', J.os, J.bare, J.base, J.hok, rfl, q⟩
  | .brk, ⟨_, _, _, q⟩ => exact False.elim q
  | .cont, ⟨_, _, _, q⟩ => exact False.elim q
end
/-- where a def that may raise stands, under the name x, with its promise -/
structure CalE (P : Program) (w : World) (K : PySem.W.Frag) (mg : Str → Option Value) (base : Heap) (k : Nat) (x : Str) (ps : List Str) (f : Addr) (fd : FuncData) (sp : Sp) : Prop where
  ok : FnE P w K mg base k f fd ps sp
  kp : PySem.W.keepIn K (.ref f) = true
  b : Binds K fd ps []
  g : mg x = some (.ref f)
  lk : ∃ oc od osl, K.lookup f = some ⟨oc, od, .func fd, osl⟩
def HasE (P : Program) (w : World) (K : PySem.W.Frag) (mg : Str → Option Value) (base : Heap) (k : Nat) (x : Str) (ps : List Str) (sp : Sp) : Prop := ∃ f fd, CalE P w K mg base k x ps f fd sp
section
variable {P : Program} {w : World} {K : PySem.W.Frag} {mg : Str → Option Value} {base : Heap} {j k : Nat} {x : Str} {ps : List Str} {sp sp' : Sp}
theorem HasE.up (h : HasE P w K mg base j x ps sp) (l : j ≤ k) : HasE P w K mg base k x ps sp := by
  obtain ⟨f, fd, c⟩ := h
  exact ⟨f, fd, c.ok.up l, c.kp, c.b, c.g, c.lk⟩
theorem HasE.weak (h : HasE P w K mg base k x ps sp) (i : ∀ vs H Q E, sp' vs H Q E → sp vs H Q E) : HasE P w K mg base k x ps sp' := by
  obtain ⟨f, fd, c⟩ := h
  exact ⟨f, fd, c.ok.weak i, c.kp, c.b, c.g, c.lk⟩
theorem HasE.by {st : Stmt} {N : List Str} (F : At K mg x st ps) (S : FnScope N ps (defScope st)) (len : ∀ vs H Q E, sp vs H Q E → vs.length = ps.length)
    (hb : ∀ (f : Addr) (cdv : Value) (A : Around) (out : List Env) (s : Shared) (H : Hp) (vs : List V) (Q : VK) (E : XK), A.guards = some [] → Room k (A.deeper (envOfC x (defScope st) s.heap.objs.size f cdv)) → sp vs H Q E →
      ∃ t, PSs (cxOf (L2.CX P w) P w K mg base N x (defScope st) f cdv A out s H E) (defBody st) t ∧ t { nx := fun _ H' => Q .non H', rt := Q } (start N vs) H) : HasE P w K mg base (k + 1) x ps sp := by
  obtain ⟨f, fd, F, b, g⟩ := F
  exact ⟨f, fd, .body F S len (hb f), F.kp, b, g, fun_lk F⟩
/-- what raises nothing is a promise of both kinds -/
theorem HasE.calm (h : HasE P w K mg base k x ps sp) (i : ∀ vs H Q E, sp' vs H Q E → sp vs H Q E0) : Has P w K mg base k x ps sp' := by
  obtain ⟨f, fd, c⟩ := h
  refine ⟨f, fd, ⟨fun vs H Q E q => c.ok.len vs H Q E0 (i _ _ _ _ q), fun A out s H as us vs Q E g r e b v q => ?_⟩, c.kp, c.b, c.g, c.lk⟩
  refine codeAny_mono (c.ok.run A out s H as us vs Q E0 g r e b v (i _ _ _ _ q)) fun r s' z => ?_
  match r, z with
  | .error _, z =>
    obtain ⟨_, _, _, _, _, _, _, _, _, _, _, _, z⟩ := z
    exact z.elim
  | .ok (.ret _), z => exact z
  | .ok .next, z => exact z.elim
  | .ok .brk, z => exact z.elim
  | .ok .cont, z => exact z.elim
end
section
variable {X : Cx} {k : Nat} {x : Str} {ps ks : List Str} {f : Addr} {fd : FuncData} {sp : Sp} {p pos : Pos} {e : Expr} {es : List Expr} {t : TA} {E : L2.St → XK}
theorem calE_run {pins : List (Addr × Obj)} {σ : L2.St} {H : Hp} {s : Shared} {Q : VK} {us zs : List Value} {vs : List V} {kw : List (Str × Value)} (c : FnE X.prog X.w X.K X.mg X.base k f fd ps sp) (hg : X.A.guards = some []) (hr : Room k X.A) (hx : PassesAt (L2.CX X.prog X.w) X σ (E σ))
    (I : Inv X pins σ H s) (bind : BindsTo s fd ⟨us, kw⟩ (ps.zip zs)) (vals : Vals vs zs) (h : sp vs H Q (E σ)) : wpAny (model X.prog X.w) X.A (call (.ref f) us kw) (EP X pins σ Q) X.xe s := by
  refine wpAny_call (codeAny_mono (c.run X.A X.stack s H ⟨us, kw⟩ zs vs Q (E σ) hg hr I.env0 bind vals h) fun r s' z => ?_)
  match r, z with
  | .error e, z => exact hx pins H s e s' I z
  | .ok (.ret _), z => exact I.after z
  | .ok .next, z => exact z.elim
  | .ok .brk, z => exact z.elim
  | .ok .cont, z => exact z.elim
/-- f(e, ..), which may raise -/
theorem pe_calE (c : CalE X.prog X.w X.K X.mg X.base k x ps f fd sp) (hg : X.A.guards = some []) (hr : Room k X.A) (gl : Gl X x) (hx : ∀ σ, PassesAt (L2.CX X.prog X.w) X σ (E σ)) (ha : PA X (e :: es) t) (hdb : (x == ("__debug__" : Str)) = false := by decide)
    (he : starEach (e :: es) X.env = (false, eval e X.env) :: starEach es X.env := by rfl) (hpl : (backTo pos (starEach es X.env)).any (·.1) = false := by rfl) :
    PE X (.Call (.Name x p) (e :: es) [] pos) (tCallS sp E t) := by
  refine ⟨fun pins s σ H Q I h => wpAny_Call_Name_kw (ld_glob I gl c.g ?_ hdb)⟩
  refine PySem.W.callWith_K (h₀ := X.base) I.ok.mod.kin c.kp (thn (ha.run pos pins s σ H _ I h) fun us s1 ⟨vs, H1, I1, r, q⟩ => ⟨I1.kIn, ?_⟩) he hpl
  have ln : (us ++ []).length = ps.length := by
    rw [List.append_nil, ← r.length]
    exact c.ok.len _ _ _ _ q
  have bd := c.b s1 us I1.kIn ln
  rw [List.append_nil] at bd
  exact calE_run c.ok hg hr (hx σ) I1 bd r q
end
/-! ### an error made, raised -/
section
variable {X : Cx} {C fI : Addr} {x f : Str}
/-- x(e), then raised -/
def tMkErr (f : Str) (C : Addr) (ta : TA) : L2.St → Hp → XK → Prop := fun σ H Q => ta σ H fun vs H1 => ∃ v, vs = [v] ∧ ∀ d, H1 d = none → Q (.ref C) (some d) (upd H1 d (.xd [(f, v)]))
theorem pmk_err {a : Expr} {ta : TA} {p pos : Pos} {k : Nat} (T : ErrTxt X.prog X.K X.mg x f C fI) (hr : Room k X.A) (ha : PA X [a] ta) (hg : Gl X x) (hdb : (x == ("__debug__" : Str)) = false := by decide)
    (he : starEach (a :: []) X.env = (false, eval a X.env) :: starEach [] X.env := by rfl) (hpl : (backTo pos (starEach [] X.env)).any (·.1) = false := by rfl) :
    PMk X (.Call (.Name x p) [a] [] pos) (tMkErr f C ta) := by
  intro pins s σ H Q I h
  refine wpAny_Call_Name_kw (ld_glob I hg T.gC ?_ hdb)
  refine PySem.W.callWith_K (h₀ := X.base) I.ok.mod.kin T.kC (thn (ha.run pos pins s σ H _ I h) fun us s1 hh => ?_) he hpl
  obtain ⟨vs, H1, I1, r1, v, ev, q1⟩ := hh
  subst ev
  refine ⟨I1.kIn, ?_⟩
  cases r1 with
  | cons rv rn =>
    rename_i v' us'
    cases rn
    show wpAny _ _ (call (.ref C) [v']) _ _ _
    have hlim := I1.nolimit
    obtain ⟨mb, hb1, hb2⟩ := I1.mod.blt
    have hG := I1.mod.glob.keeps I1.bk
    have hB := hb1.keeps I1.bk
    obtain ⟨hp, g, dr, tk, os⟩ := s1
    refine wpAny_call (err_made T I1.kIn hlim hG hB hb2 (by have := hr.dp; omega) fun h' tk' e d M => ?_)
    show MkP X pins σ Q (.ref e) ⟨h', g, dr, tk', os⟩
    obtain ⟨oe, fv, hoe, hc, hd, hdat, h1⟩ := M.obj
    have hns := M.ns
    obtain ⟨G', g1, g2⟩ := restrict h' fun b => decide (b ≠ e)
    have gk : ∀ b, b ≠ e → G'.get? b = h'.get? b := fun b hb => g1 b (decide_eq_true hb)
    have ge : G'.get? e = none := g2 e (by simp)
    have old : ∀ b o, hp.get? b = some o → G'.get? b = some o := fun b o q => (gk b (Nat.ne_of_lt (Nat.lt_of_lt_of_le (Heap.lt_size q) M.new))).trans (M.keep b o q)
    have ob : ObjOk X.prog X.w (upd H1 d (.xd [(f, v)])) G' d (.xd [(f, v)]) :=
      ⟨_, hns.at (fun o q => (gk d M.dne).trans q), fun f => relO_put (fs := []) (mA := fun _ => none) rv (fun _ => True.intro) f⟩
    have J : Inv X pins σ (upd H1 d (.xd [(f, v)])) ⟨G', g, dr, tk', os⟩ := I1.laid (t' := tk') old M.dbig ob
    refine ⟨e, oe, fv, ⟨G', g, dr, tk', os⟩, _, .ref C, some d, rfl, J, fun b o q => ?_, ge, hoe, ⟨hc, hd⟩, hdat, h1, ?_, rfl, I1.bare, raises_own T.exC T.tyC, q1 d (I1.hok.fresh M.dbig)⟩
    · by_cases hb : b = e
      · have q' : G'.get? b = some o := q
        rw [hb, ge] at q'; cases q'
      · exact (gk b hb).symm.trans q
    · rw [upd_ne (Ne.symm M.dne)]
      exact I1.hok.fresh M.new
/-- raise x(e) -/
def tRaiseErr (f : Str) (C : Addr) (W : WX) (ta : TA) : TS := fun _ σ H => tMkErr f C ta σ H fun cls d H' => W cls d σ H'
theorem ps_raiseErr {a : Expr} {ta : TA} {W : WX} {p pos pos2 : Pos} {k : Nat} (hc : X.calm = true) (T : ErrTxt X.prog X.K X.mg x f C fI) (hr : Room k X.A) (tk : Takes X W) (ha : PA X [a] ta) (hg : Gl X x) (hdb : (x == ("__debug__" : Str)) = false := by decide)
    (he : starEach (a :: []) X.env = (false, eval a X.env) :: starEach [] X.env := by rfl) (hpl : (backTo pos (starEach [] X.env)).any (·.1) = false := by rfl) :
    PS X (.Raise (some (.Call (.Name x p) [a] [] pos)) none pos2) (tRaiseErr f C W ta) := ps_raise hc tk (pmk_err T hr ha hg hdb he hpl)
end
/-! ### an error as a value -/
/-- at a: an error of the class cls, its dict d -/
def exv (a : Addr) (cls : Value) (d : Option Addr) : HO := .ext fun h => ∃ (oe : Obj) (vs : Array Value), h.get? a = some oe ∧ Zc cls d oe ∧ oe.data = .fields vs
theorem exv_ok {P : Program} {w : World} {H : Hp} {h : Heap} {a : Addr} {cls : Value} {d : Option Addr} {oe : Obj} {vs : Array Value} (e : h.get? a = some oe) (z : Zc cls d oe) (hd : oe.data = .fields vs) : ObjOk P w H h a (exv a cls d) :=
  ⟨⟨oe, vs, e, z, hd⟩, ⟨oe, e⟩, fun _ _ ⟨o, v, q, r⟩ k => ⟨o, v, k o q, r⟩⟩
theorem exv_at {P : Program} {w : World} {H : Hp} {h : Heap} {a : Addr} {cls : Value} {d : Option Addr} (hok : HOk P w H h) (he : H a = some (exv a cls d)) : ∃ (oe : Obj) (vs : Array Value), h.get? a = some oe ∧ Zc cls d oe ∧ oe.data = .fields vs := by
  have x : ObjOk P w H h a (.ext fun h => ∃ (oe : Obj) (vs : Array Value), h.get? a = some oe ∧ Zc cls d oe ∧ oe.data = .fields vs) := hok a _ he
  exact x.1
section
variable {X : Cx} {pins : List (Addr × Obj)} {σ : L2.St} {H : Hp} {s : Shared}
/-- an object that was not there at the entry, tracked from now on -/
theorem track {a : Addr} {o : HO} (I : Inv X pins σ H s) (n0 : X.s_0.heap.get? a = none) (hn : H a = none) (nL : a ≠ X.env.locals) (nC : ∀ x c, X.env.cells.lookup x = some c → c ≠ a) (np : ∀ p ∈ X.pn ++ pins, p.1 ≠ a)
    (new : ObjOk X.prog X.w (upd H a o) s.heap a o) : Inv X pins σ (upd H a o) s := by
  refine ⟨I.ok, I.os, I.bare, ⟨I.base.keep, I.base.slot, fun b u q n hx => ?_, I.base.there, fun b xs q => ?_, fun b u v q => ?_, fun b ps q => ?_⟩, I.loc, I.cell, ?_, fun x c e => ?_, fun p hp => ?_, fun b u e => ?_, I.len⟩
  · rw [upd_ne (fun z => by rw [z, n0] at q; cases q)]
    exact I.base.free b u q n hx
  · have q' := I.base.tups b xs q
    rw [upd_ne (ne_of_none q' hn)]
    exact q'
  · have q' := I.base.frzs b u v q
    rw [upd_ne (ne_of_none q' hn)]
    exact q'
  · obtain ⟨m, q'⟩ := I.base.tbls b ps q
    exact ⟨m, by rw [upd_ne (ne_of_none q' hn)]; exact q'⟩
  · rw [upd_ne (Ne.symm nL)]
    exact I.free
  · rw [upd_ne (nC x c e)]
    exact I.freeC x c e
  · obtain ⟨e, n, ne, nf, d⟩ := I.pin p hp
    exact ⟨e, by rw [upd_ne (np p hp)]; exact n, ne, nf, d⟩
  · by_cases hb : b = a
    · subst hb
      rw [upd_same] at e
      cases e
      exact new
    · rw [upd_ne hb] at e
      exact (I.hok b u e).stay (fun _ _ _ q => q) (fun c q => by rw [upd_ne (ne_of_none q hn)]; exact q) fun c xs q => by rw [upd_ne (ne_of_none q hn)]; exact q
end
/-! ### try: body, except x as n: suite; the error is kept as a value -/
/-- what the clause wishes of an error of the body: slot i is n's -/
def wKeep (K : PySem.W.Frag) (c : Value) (i : Nat) (ts : TS) (Wout : WX) (D : Ends) : WX := fun cls d σ H =>
  ∃ b, PySem.W.exmOne K cls c = some b ∧ (b = true → ∀ a, H a = none → ts { nx := fun σ' H' => D.nx (σ'.set i none) H', rt := D.rt, bk := fun σ' H' => D.bk (σ'.set i none) H', ct := fun σ' H' => D.ct (σ'.set i none) H' } (σ.set i (some (.ref a))) (upd H a (exv a cls d))) ∧
    (b = false → Wout cls d σ H)
section
variable {X : Cx} {x n : Str} {c : Value} {i : Nat} {body suite : List Stmt} {b₀ : Stmt} {np pos pos' : Pos} {tb : WX → TS} {ts : TS} {Wout : WX}
theorem suiteK {pins : List (Addr × Obj)} {σ : L2.St} {H : Hp} {s : Shared} (I : Inv X pins σ H s) (a : Addr) : Inv (X.suite a (X.pn ++ pins)) [] σ H s :=
  ⟨I.ok.suite _ _, I.os, I.bare, I.base, I.loc, I.cell, I.free, I.freeC, fun p hp => I.pin p (by rw [List.append_nil] at hp; exact hp), I.hok, I.len⟩
theorem unsuiteK {pins pn' : List (Addr × Obj)} {σ : L2.St} {H : Hp} {s : Shared} {a : Addr} (I : Inv (X.suite a (X.pn ++ pins)) pn' σ H s) (ok : X.Ok) : Inv X pins σ H s :=
  ⟨ok, I.os, I.bare, I.base, I.loc, I.cell, I.free, I.freeC, fun p hp => I.pin p (List.mem_append_left _ hp), I.hok, I.len⟩
theorem ps_try_keep (hs : X.stack = X.env :: X.outer) (hf : X.env.frame = some X.env.locals) (hex : X.ex = []) (hN : X.N.Nodup) (hi : X.N[i]? = some n) (hln : X.env.kindOf n = some .local) (hc : Names X x c) (tk : Takes X Wout)
    (hb : ∀ (W : WX) (pn : List (Addr × Obj)) (xe : Value → Shared → Prop), Takes (X.tr pn xe) W → PassesOwn (model X.prog X.w) X.A X.env xe → PSs (X.tr pn xe) body (tb W))
    (hsu : ∀ (a : Addr) (pn : List (Addr × Obj)), PSs (X.suite a pn) (b₀ :: suite) ts) :
    PS X (.Try body [.ExceptHandler (some (.Name x np)) (some n) (b₀ :: suite) pos'] [] [] pos) (fun D σ H => tb (wKeep X.K c i ts Wout D) D σ H) := by
  refine ⟨fun pins s σ H D I h => ?_⟩
  have ok := I.ok
  have frm : X.A.frames = some (X.env :: X.outer) := by rw [ok.frames, hs]
  refine wpAny_Try_except ?_
  refine wpAny_mono ((hb (wKeep X.K c i ts Wout D) (X.pn ++ pins) (fun er s₁ => wpAny (model X.prog X.w) X.A (noteFrame er X.env) (fun _ s₂ => wpAny (model X.prog X.w) X.A (setFlight er none) (fun _ s₃ =>
    wpAny (model X.prog X.w) X.A (handleBy er X.env [.ExceptHandler (some (.Name x np)) (some n) (b₀ :: suite) pos']) (SP X pins D) X.xe s₃) X.xe s₂) X.xe s₁) (fun u s' air => ?_) PassesOwn.looking).run [] s σ H D (I.toTry _) h) (fun fl s1 sp => ?_) (fun er s1 he => he)
  · obtain ⟨a, B, sI, pins', σ', H', cls, d, rfl, J', gr, up, sky, na, os, ag, b, hb1, yes, no⟩ := air
    have J : Inv X pins σ' H' sI := J'.ofTry ok
    have sky' : Sky B (X.env :: X.outer) a (Zc cls d) X.env.locals s'.heap := by rw [← hs]; exact sky
    show wpAny (model X.prog X.w) X.A (noteFrame (.ref a) X.env) _ _ _
    refine Sky.land Zc.steady frm hf sky' fun h3 f3 u3 => ?_
    have J3 : Inv X pins σ' H' { s' with heap := h3 } := J.landed gr f3.1 (up.trans u3) os ag
    obtain ⟨o3, v3, he3, hz3, hd3⟩ := f3.there
    have nfr : a ∉ frs (X.env :: X.outer) := fun hm => by
      obtain ⟨_, o', e', hnf⟩ := f3.2.2.1.mem hm
      rw [he3] at e'
      cases e'
      exact hnf _ hd3
    have nL : a ≠ X.env.locals := fun z => nfr (List.mem_filterMap.mpr ⟨X.env, List.mem_cons_self, by rw [hf, z]⟩)
    have nF : a ∉ X.fs := fun hm => by
      obtain ⟨e, he, q⟩ := List.mem_filterMap.mp hm
      exact nfr (List.mem_filterMap.mpr ⟨e, List.mem_cons_of_mem _ he, q⟩)
    have nG : B.get? a = none := f3.2.1
    have nI : sI.heap.get? a = none := by
      cases e : sI.heap.get? a with
      | none => rfl
      | some o =>
        have z := gr a o e (by rw [hs]; exact nfr)
        rw [nG] at z
        cases z
    have n0 : X.s_0.heap.get? a = none := by
      cases e : X.s_0.heap.get? a with
      | none => rfl
      | some o =>
        obtain ⟨o', z⟩ := J.base.there a o e (by rw [hex]; exact fun z => nomatch z)
        rw [nI] at z
        cases z
    have nP : ∀ p ∈ X.pn ++ pins, p.1 ≠ a := fun p hp z => by
      have q := (J.pin p hp).1
      rw [z, nI] at q
      cases q
    have S3 := J3.suite he3 hd3 na nL nF
    refine wpAny_handleBy_cons (codeAny_handlers_test ?_) (by intro q; cases q)
    have lt : PySem.W.Looks (model X.prog X.w) h3 (typeOf (.ref a)) cls := fun A Q E s k q => wpAny_typeOf_ref (k _ _ he3) (by rw [hz3.1]; exact q)
    have lm := PySem.W.exm_one (M := model X.prog X.w) (J3.kIn) lt hb1
    have test : ∀ {Q : Value → Shared → Prop} {E : Value → Shared → Prop}, Q c { s' with heap := h3 } → wpAny (model X.prog X.w) (X.A.mark (some (.ref a))) (eval (.Name x np) X.env) Q E { s' with heap := h3 } := fun {Q E} q => by
      obtain ⟨g1, g2, g3 | ⟨g3, g4, g5⟩⟩ := hc
      · exact ld_glob (X := X.suite a ((a, o3) :: (X.pn ++ pins))) S3 g1 g3 q g2
      · exact ld_blt (X := X.suite a ((a, o3) :: (X.pn ++ pins))) S3 g1 g3 g4 q g5 g2
    refine test (lm.here ?_)
    cases b with
    | true =>
      refine codeAny_handlers_suite_as ?_
      refine HandSPX.lands_againZ f3 fun h4 f4 u4 => ?_
      have J4 : Inv X pins σ' H' { s' with heap := h4 } := J.landed gr f4.1 ((up.trans u3).trans u4) os ag
      obtain ⟨o4, v4, he4, hz4, hd4⟩ := f4.there
      have nC : ∀ x c, X.env.cells.lookup x = some c → c ≠ a := fun y c e z => by
        obtain ⟨v, o, q, hq⟩ := J4.cell y c e
        rw [z] at q
        have q' : h4.get? a = some o := q
        rw [he4] at q'
        cases q'
        rw [hd4] at hq
        cases hq
      have T4 : Inv X pins σ' (upd H' a (exv a cls d)) { s' with heap := h4 } := track J4 n0 na nL nC nP (exv_ok he4 hz4 hd4)
      have S4 := suiteK T4 a
      refine store_ok (X := X.suite a (X.pn ++ pins)) (v := .ref a) S4 hN hi (.inl hln) rfl (fun s5 S5 => ?_) (.inr hln)
      refine wpAny_mono ((hsu a (X.pn ++ pins)).run [] s5 _ (upd H' a (exv a cls d)) _ S5 (yes rfl a na)) (fun fl s6 sp => ?_) (fun _ _ z => False.elim z)
      have fin : ∀ {σ6 : L2.St} {H6 : Hp} {Q : Shared → Prop}, Inv (X.suite a (X.pn ++ pins)) [] σ6 H6 s6 → (∀ s7, Inv X pins (σ6.set i none) H6 s7 → Q s7) →
          wpAny (model X.prog X.w) X.A (do bindName X.env n .none; unbindBehindTheSuite X.env n pos') (fun _ s7 => Q s7) X.xe s6 := fun {σ6 H6 Q} S6 hq => gone_ok (unsuiteK S6 ok) hN hi hln hq
      cases fl with
      | next =>
        obtain ⟨σ6, H6, S6, q6⟩ := sp
        exact fin S6 fun s7 J7 => ⟨_, _, J7, q6⟩
      | brk =>
        obtain ⟨σ6, H6, S6, q6⟩ := sp
        exact fin S6 fun s7 J7 => ⟨_, _, J7, q6⟩
      | cont =>
        obtain ⟨σ6, H6, S6, q6⟩ := sp
        exact fin S6 fun s7 J7 => ⟨_, _, J7, q6⟩
      | ret u =>
        obtain ⟨v6, σ6, H6, S6, r6, q6⟩ := sp
        exact fin S6 fun s7 J7 => ⟨_, _, _, J7, r6, q6⟩
    | false =>
      show wpAny _ X.A (handleBy (.ref a) X.env []) _ _ _
      refine wpAny_handleBy_nil ?_
      obtain ⟨k1, k2, k3, oe, vs, T, oT, ts', he, hz, hd, h1, hr⟩ := id f3
      unfold PySem.passOn
      refine wpAny_bind (wpAny_field he hd h1 ?_)
      rw [if_neg (show ¬ ((Value.ref T == Value.none) = true) from by simp)]
      have fin : wpAny (model X.prog X.w) X.A (setFlight (.ref a) X.env.frame) (fun _ s4 => wpAny (model X.prog X.w) X.A (throw (.ref a) : Sem Flow) (SP X pins D) X.xe s4) X.xe { s' with heap := h3 } := by
        rw [hf]
        refine HandSPX.setFlight_upZ f3 fun h4 hh4 u4 => wpAny_throw (tk _ _ ?_)
        exact ⟨a, B, sI, pins, σ', H', cls, d, rfl, J, gr, (up.trans u3).trans u4, .inr (.inr (by rw [hs]; exact hh4)), na, os, ag, no rfl⟩
      first
        | exact wpAny_bind (wpAny_pure (wpAny_bind fin))
        | exact wpAny_bind fin
  · cases fl with
    | next =>
      obtain ⟨σ', H', J', q⟩ := sp
      exact wpAny_execs_nil ⟨σ', H', J'.ofTry ok, q⟩
    | brk =>
      obtain ⟨σ', H', J', q⟩ := sp
      exact ⟨σ', H', J'.ofTry ok, q⟩
    | cont =>
      obtain ⟨σ', H', J', q⟩ := sp
      exact ⟨σ', H', J'.ofTry ok, q⟩
    | ret u =>
      obtain ⟨v, σ', H', J', r, q⟩ := sp
      exact ⟨v, σ', H', J'.ofTry ok, r, q⟩
end
/-! ### asked -/
/-- what the class D says, so that isinstance asks its instances rightly, and their attributes are read -/
theorem exv_inst {P : Program} {w : World} {H : Hp} {h : Heap} {a D : Addr} {d : Option Addr} (hok : HOk P w H h) (he : H a = some (exv a (.ref D) d)) (hd : ∀ dd, d = some dd → ∃ fs, H dd = some (.xd fs)) : ∃ oe od, PySem.W.InstAt h a oe D od := by
  obtain ⟨oe, vs, e, ⟨z1, z2⟩, dt⟩ := exv_at hok he
  cases d with
  | none => exact ⟨oe, none, e, z1, by unfold PySem.W.notCls; rw [dt] <;> rfl, by rw [z2]; trivial⟩
  | some dd =>
    obtain ⟨fs, q⟩ := hd dd rfl
    have hx : ObjOk P w H h dd (.xd fs) := hok dd _ q
    obtain ⟨mA, ⟨o, es, ep, ho, _⟩, _⟩ := hx
    exact ⟨oe, some o, e, z1, by unfold PySem.W.notCls; rw [dt] <;> rfl, by rw [z2]; exact ho⟩
/-- isinstance(e, c), e an error of the class D -/
def rIsX (K : PySem.W.Frag) : List V → Hp → VK → Prop := fun xs H Q => ∃ (a D : Addr) (d : Option Addr) (c : V) (cv : Value) (b : Bool), xs = [.ref a, c] ∧ H a = some (exv a (.ref D) d) ∧ (∀ dd, d = some dd → ∃ fs, H dd = some (.xd fs)) ∧ ExcC K D ∧ ClsV c cv ∧ PySem.W.kitOne K (.ref D) cv = some b ∧ Q (.bl b) H
theorem kit_exc {K : PySem.W.Frag} {D x : Addr} {ox : Obj} {od : Option Obj} (C : ExcC K D) : PySem.W.KitX K (.ref x) (.ref D) (fun h => PySem.W.InstAt h x ox D od) := by
  refine PySem.W.kitx_exc ?_ C.hg C.hk C.hs C.ha C.hn C.ht C.hm
  obtain ⟨cd, hc, _⟩ := PySem.W.any_some C.hd
  rw [hc] <;> rfl
theorem call_isX {X : Cx} {K : PySem.W.Frag} (hK : X.K = K) : CallR X (.builtin "isinstance") (rIsX K) := by
  subst hK
  intro pins s σ H xs us Q I r h
  obtain ⟨a, D, d, c, cv, b, rfl, he, hd, C, k, e, q⟩ := h
  obtain ⟨u1, u2, rfl, r1, r2⟩ := vals2 r
  have e2 := k.eq r2
  subst e2
  cases (show u1 = Value.ref a from r1)
  obtain ⟨oe, od, J⟩ := exv_inst I.hok he hd
  exact PySem.W.kia_one (kit_exc C) I.kIn J e (fun z => nomatch z) fun tk => ⟨.bl b, H, I.tok tk, rfl, q⟩
/-- e.n, e an error of the class C -/
def tExvF (n : Str) (te : TE) (K : PySem.W.Frag) : TE := fun σ H Q => te σ H fun x H1 => ∃ (a C dd : Addr) (fs : List (Str × V)) (v : V), x = .ref a ∧ XfC K C ∧ PySem.W.findIn K (.ref C) n = some none ∧ H1 a = some (exv a (.ref C) (some dd)) ∧ H1 dd = some (.xd fs) ∧ fs.lookup n = some v ∧ Q v H1
theorem pe_exvF {X : Cx} {e : Expr} {te : TE} {pos : Pos} {n : Str} (he : PE X e te) (hb : attributeBase e n X.env (eval e X.env) = eval e X.env := by rfl) : PE X (.Attribute e n pos) (tExvF n te X.K) := by
  refine ⟨fun pins s σ H Q I h => ?_⟩
  refine attr_of hb (thn (he.run pins s σ H _ I h) fun u s1 hh => ?_)
  obtain ⟨x, H1, I1, rx, a, C, dd, fs, v, ex, T, hno, ea, ed, l, q⟩ := hh
  subst ex
  obtain rfl : u = Value.ref a := rx
  obtain ⟨oe, vs, ho, hz, hdt⟩ := exv_at I1.hok ea
  have hx : ObjOk X.prog X.w H1 s1.heap dd (.xd fs) := I1.hok dd _ ed
  obtain ⟨mA, hns, hr⟩ := hx
  obtain ⟨od, hod, hl⟩ := lookIn_ns hns
  obtain ⟨u, hu, ru⟩ := RelO.some_of (v := v) (o := mA n) (by rw [← l]; exact hr n)
  have J : PySem.W.InstAt s1.heap a oe C (some od) := ⟨ho, hz.1, by unfold PySem.W.notCls; rw [hdt] <;> rfl, by rw [hz.2]; exact hod⟩
  exact HandSPX.exc_get I1.kIn J T.ga T.gg T.exC (PySem.W.findObj_own T.hdC hno rfl (by rw [hl, hu])) (handed_of ru) ⟨v, H1, I1.tok _, ru, q⟩
end Lj
set_option Elab.async false
set_option linter.all false
set_option maxRecDepth 100000
set_option maxHeartbeats 2000000
/-! # lambdas without parameters where nothing is being shown; calls by keyword that may raise; the end with one table -/
namespace Lj
open PySem PySem.Spec PyProof.Rows L2 LamX
/-! ### f(n = v, ..), which may raise -/
def tCalKE (sp : Sp) (E : L2.St → XK) (gV : List V → List V → List V) (tk : TA) : TE := fun σ H Q => tk σ H fun zs H1 => sp (gV [] zs) H1 Q (E σ)
section
variable {X : Cx} {k : Nat} {x : Str} {ps ks : List Str} {f : Addr} {fd : FuncData} {sp : Sp} {p pos : Pos} {kws : List Keyword} {tk : TA} {E : L2.St → XK} {g : List Value → List Value → List Value} {gV : List V → List V → List V}
theorem pe_calEK0 (c : CalE X.prog X.w X.K X.mg X.base k x ps f fd sp) (hb : KBinds X.K fd ps ks g gV) (hg : X.A.guards = some []) (hr : Room k X.A) (gl : Gl X x) (hx : ∀ σ, PassesAt (L2.CX X.prog X.w) X σ (E σ)) (hkw : PK X kws tk)
    (hall : (backToKw pos (keywordEach kws X.env)).all (·.1.isSome) = true := by rfl) (hks : (backToKw pos (keywordEach kws X.env)).filterMap (·.1) = ks := by rfl) (hdb : (x == ("__debug__" : Str)) = false := by decide)
    (hpl : ((backTo pos (starEach [] X.env)).any (·.1) || (backToKw pos (keywordEach kws X.env)).any (·.1.isNone)) = false := by rfl) :
    PE X (.Call (.Name x p) [] kws pos) (tCalKE sp E gV tk) := by
  refine ⟨fun pins s σ H Q I h => wpAny_Call_Name_kw (ld_glob I gl c.g ?_ hdb)⟩
  refine PySem.W.callWith_KW0 (h₀ := X.base) I.ok.mod.kin c.kp hall (thn (hkw.run pos pins s σ H _ I h) fun ws s2 ⟨zs, H2, I2, rz, q2⟩ => ⟨I2.kIn, ?_⟩) hpl
  rw [hks]
  have r2 := hb.rel (vs := []) (us := []) .nil rz
  exact calE_run c.ok hg hr (hx σ) I2 (hb.to s2 [] ws I2.kIn (by rw [← r2.length]; exact c.ok.len _ _ _ _ q2)) r2 q2
end
/-! ### a lambda's body lets out what its caller takes -/
theorem lam_takes {X : Cx} {A : Around} {outer : List Env} {s : Shared} {H : Hp} {E : XK} {scope : Scope} {f c' : Addr} : Takes (lamCx X A outer s H E scope f c') (fun cls d _ H => E cls d H) :=
  takes_of (X := lamCx X A outer s H E scope f c') (E := E) rfl rfl rfl rfl
theorem lam_passes {X : Cx} {A : Around} {outer : List Env} {s : Shared} {H : Hp} {E : XK} {scope : Scope} {f c' : Addr} (σ : L2.St) : PassesAt (L2.CX (lamCx X A outer s H E scope f c').prog (lamCx X A outer s H E scope f c').w) (lamCx X A outer s H E scope f c') σ ((fun _ => E) σ) :=
  passAt (X := lamCx X A outer s H E scope f c') (W := fun cls d _ H => E cls d H) lam_takes σ
section
variable {X : Cx} {pins : List (Addr × Obj)} {σ : L2.St} {H : Hp} {s : Shared}
/-- a() in the def that got the lambda, as LamX.pe_act; the lambda's body may ask that nothing is being shown -/
theorem pe_actG {CXg : CXT} {Eg : XK} {Ng : List Str} {qg : Str} {sg : Scope} {g f c' : Addr} {cdg pm ctv : Value} {params : Arguments} {body : Expr} {scope : Scope} {k i : Nat} {a : Str} {pn : List (Addr × Obj)} {xe : Value → Shared → Prop} {W : WX} {tb : XK → TE} {p1 p2 : Pos} (hgu : X.A.guards = some [])
    (I : Inv X pins σ H s) (L : LamS X.env.scope scope) (hf : s.heap.get? f = some (PySem.W.kla_obj "<lambda>" (X.env.qual ++ "<lambda>") params body scope (cloFrom X.env.cells scope.names []) pm c' ctv)) (hfn : H f = none) (hfr : f ∉ frs X.stack)
    (hbind : bindArgs (PySem.W.kla_fn "<lambda>" (X.env.qual ++ "<lambda>") params body scope (cloFrom X.env.cells scope.names []) pm (.ref c') ctv) ⟨[], []⟩ = pure [])
    (tk : Takes ((cxOf CXg X.prog X.w X.K X.mg X.base Ng qg sg g cdg X.A X.stack s H Eg).tr pn xe) W) (hr : Room (k + 1) (X.A.deeper (envOfC qg sg s.heap.objs.size g cdg)))
    (hbody : ∀ (A : Around) (outer : List Env) (s : Shared) (H : Hp) (E : XK), A.guards = some [] → Room k (A.deeper (lamEnv X scope s.heap.objs.size f c')) → PE (lamCx X A outer s H E scope f c') body (tb E))
    (hN : Ng[i]? = some a) (hv : Vis sg a) (hd : (a == ("__debug__" : Str)) = false := by decide) (hcd : (a == ("__classdict__" : Str)) = false := by decide) :
    PE ((cxOf CXg X.prog X.w X.K X.mg X.base Ng qg sg g cdg X.A X.stack s H Eg).tr pn xe) (.Call (.Name a p1) [] [] p2)
      (fun σZ HZ Q => σZ[i]? = some (some (.ref f)) ∧ HZ c' = some (CodeO c' (X.env.qual ++ "<lambda>")) ∧ tb (WE W σZ) σ HZ Q) := by
  refine ⟨fun pinsZ sZ σZ HZ Q IZ h => ?_⟩
  obtain ⟨slot, code, want⟩ := h
  refine wpAny_Call_Name_kw (thn ((pe_var (pos := p1) (i := i) hN hv hd hcd).run pinsZ sZ σZ HZ (fun v H1 => v = .ref f ∧ H1 = HZ) IZ ⟨.ref f, slot, rfl, rfl⟩) fun u s1 ⟨v, H1, I1, rv, ev, eH⟩ => ?_)
  cases ev
  cases eH
  obtain rfl : u = Value.ref f := rv
  have here := I1.base.keep f _ hf hfn hfr (fun z => nomatch (show f ∈ ([] : List Addr) from z))
  refine PySem.W.callWith_F0 ⟨_, _, _, _, here⟩ ?_
  have un : Un (frs X.stack) [] H HZ s.heap s1.heap := I1.base
  obtain ⟨⟨oc, vs, t, eo, ed, en⟩, _⟩ := I1.hok c' _ code
  have done : codeAny (model X.prog X.w) (X.A.deeper (envOfC qg sg s.heap.objs.size g cdg)) (.call (.ref f) ⟨[], []⟩) (CR (L2.CX X.prog X.w) (envOfC qg sg s.heap.objs.size g cdg :: X.stack) X.prog X.w HZ s1 Q (WE W σZ)) s1 := by
    refine PySem.W.kla_callFunE hr.depth here rfl L.co L.gen rfl ⟨c', oc, vs, t, rfl, eo, ed, en⟩ ?_
    rw [hbind]
    refine wpAny_pure (wpAny_newFunctionEnv (fun y hy => (L.own y hy).2) (fun y hy => absurd hy (by simp)) (fun h1 names up => ⟨I1.nolimit.fresh _ up, ?_⟩) L.kind)
    have kp : ∀ b o, s1.heap.get? b = some o → h1.get? b = some o := fun b o e => up.extBut b o (Nat.ne_of_lt (Heap.lt_size e)) (Heap.get?_push_of_some _ e)
    have J := lam_start2 (A := X.A.deeper (envOfC qg sg s.heap.objs.size g cdg)) (outer := envOfC qg sg s.heap.objs.size g cdg :: X.stack) (E := WE W σZ) (scope := scope) (f := f) (c' := c') (tk := s1.toks + ([] : List (Str × Value)).length) I L I1.env0 hr.hd un names kp
    refine PySem.W.kla_codeExpr (wpAny_mono ((hbody (X.A.deeper (envOfC qg sg s.heap.objs.size g cdg)) _ s1 HZ (WE W σZ) hgu (hr.deeper _)).run [] _ _ HZ Q J want) (fun v s' y => ?_) fun e s' y => y)
    obtain ⟨w', H', J', rv, q⟩ := y
    exact ⟨w', H', J'.os, J'.bare, J'.base, J'.hok, rv, q⟩
  exact wpAny_call (codeAny_mono done fun r s' z => by
    match r, z with
    | .error e, z => exact passAt tk σZ pinsZ HZ s1 e s' I1 z
    | .ok (.ret _), z => exact I1.after z
    | .ok .next, z => exact z.elim
    | .ok .brk, z => exact z.elim
    | .ok .cont, z => exact z.elim)
end
/-- the def that calls what it got, where a is its parameter: LamX.GivesTo, with the slots at the call known to what takes the error -/
def GivesG (X : Cx) (Ng : List Str) (x : Str) (sg : Scope) (g : Addr) (cdg : Value) (bg : List Stmt) (a : Str) (q : Str) (TT : (XK → Hp → VK → Prop) → Hp → VK → Prop) : Prop :=
  ∀ (f c' : Addr) (s : Shared) (H : Hp) (Q : VK) (tl : XK → Hp → VK → Prop),
    (∀ (W : WX) (pn : List (Addr × Obj)) (xe : Value → Shared → Prop) (p1 p2 : Pos), Takes ((cxOf C8.CX0 X.prog X.w X.K X.mg X.base Ng x sg g cdg X.A X.stack s H C8.E0).tr pn xe) W →
      PE ((cxOf C8.CX0 X.prog X.w X.K X.mg X.base Ng x sg g cdg X.A X.stack s H C8.E0).tr pn xe) (.Call (.Name a p1) [] [] p2) (fun σZ HZ Q => σZ[0]? = some (some (.ref f)) ∧ HZ c' = some (CodeO c' q) ∧ tl (WE W σZ) HZ Q)) →
    H c' = some (CodeO c' q) → TT tl H Q →
    ∃ t, PSs (cxOf C8.CX0 X.prog X.w X.K X.mg X.base Ng x sg g cdg X.A X.stack s H C8.E0).nox bg t ∧ t { nx := fun _ H' => Q .non H', rt := Q } (L2.start Ng [.ref f]) H
section
variable {X : Cx}
/-- x(lambda: body), as LamX.pe_lamcall, where nothing is being shown -/
theorem pe_lamcallG {T : List (Addr × Str)} {TT : (XK → Hp → VK → Prop) → Hp → VK → Prop} {x a : Str} {g c P : Addr} {k : Nat} {pg : Arguments} {bg : List Stmt} {sg : Scope} {dV kV doc pm cdv ct oc : Value} {an od : Option Addr} {osl : Array (Option Value)} {Ng : List Str}
    {params : Arguments} {body : Expr} {scope : Scope} {t : XK → TE} {p lpos pos : Pos} (hgu : X.A.guards = some []) (hg : Gl X x) (hm : X.mg x = some (.ref g)) (hk : PySem.W.keepIn X.K (.ref g) = true)
    (lk : X.K.lookup g = some ⟨oc, od, .func (PySem.W.fnOf x x pg bg sg dV kV doc pm an cdv ct), osl⟩) (hcg : PySem.W.codeIn X.K cdv x = true) (hb : L2.Binds X.K (PySem.W.fnOf x x pg bg sg dV kV doc pm an cdv ct) [a] []) (Sg : FnScope Ng [a] sg) (hNg : Ng[0]? = some a) (hva : Vis sg a)
    (hG : GivesG X Ng x sg g cdv bg a (X.env.qual ++ "<lambda>") TT)
    (TB : TabB X.base X.mg c P) (hcode : X.env.code = .ref c) (hmT : (P, X.env.qual ++ "<lambda>") ∈ T) (hu : ∀ p ∈ T, p.1 = P → p.2 = X.env.qual ++ "<lambda>") (hr : Room (k + 2) X.A) (L : LamS X.env.scope scope) (hdef : defaultsOf params X.env = ([], []))
    (hbind : ∀ (q : Str) (cl : List (Str × Addr)) (pm cv ctv : Value), bindArgs (PySem.W.kla_fn "<lambda>" q params body scope cl pm cv ctv) ⟨[], []⟩ = pure [])
    (hbody : ∀ (A : Around) (outer : List Env) (s : Shared) (H : Hp) (E : XK) (f c' : Addr), A.guards = some [] → Room k (A.deeper (lamEnv X scope s.heap.objs.size f c')) → PE (lamCx X A outer s H E scope f c') body (t E))
    (hdb : (x == ("__debug__" : Str)) = false := by decide) (hd : (a == ("__debug__" : Str)) = false := by decide) (hcd : (a == ("__classdict__" : Str)) = false := by decide) :
    PE X (.Call (.Name x p) [.Lambda params body scope lpos] [] pos) (tLam T TT t) := by
  refine ⟨fun pins s σ H Q I h => ?_⟩
  obtain ⟨hT, h⟩ := h
  refine wpAny_Call_Name_kw (ld_glob I hg hm ?_ hdb)
  refine PySem.W.callWith_K (h₀ := X.base) I.ok.mod.kin hk ?_ (by rfl) (by rfl)
  show wpAny _ _ (spliced ((false, eval (.Lambda params body scope lpos) X.env) :: backTo pos (starEach [] X.env))) _ _ s
  refine Calls.spliced_cons (lam_make2 I TB hcode hmT hu hT hdef (L.has I.ok) fun f c' pm' ctv H1 s' I1 eN T1 hf hfn hfr hco => Calls.spliced_nil ⟨I1.kIn, ?_⟩)
  have done : codeAny (model X.prog X.w) X.A (.call (.ref g) ⟨[.ref f], []⟩) (CR C8.CX0 X.stack X.prog X.w H1 s' Q C8.E0) s' := by
    refine run_ofS (N := Ng) (ps := [a]) (us := [.ref f]) (vs := [.ref f]) lk hcg Sg hr I1.env0 (hb s' [.ref f] I1.kIn rfl) (.cons rfl .nil) rfl fun hr' => ?_
    obtain ⟨t', ht', hq'⟩ := hG f c' s' H1 Q (fun E H' Q' => t E σ H' Q') (fun W pn xe p1 p2 tk => pe_actG (i := 0) (tb := t) hgu I1 L hf hfn hfr (hbind _ _ _ _ _) tk hr' (fun A outer s H E hA hr2 => hbody A outer s H E f c' hA hr2) hNg hva hd hcd) hco (h H1 eN T1)
    exact ⟨t', ht'.nox, hq'⟩
  exact wpAny_call (codeAny_mono done fun r s2 z => by
    match r, z with
    | .error _, z => exact (show False from z).elim
    | .ok (.ret _), z => exact I1.after z
    | .ok .next, z => exact z.elim
    | .ok .brk, z => exact z.elim
    | .ok .cont, z => exact z.elim)
end
/-! ### a def whose code object is known -/
theorem FnG.bodyC {P : Program} {w : World} {K : PySem.W.Frag} {mg : Str → Option Value} {base : Heap} {k : Nat} {f : Addr} {fd : FuncData} {ps : List Str} {sp : Sp} {x qual : Str} {st : Stmt} {N : List Str} (F : Fun K x qual st f fd) (S : FnScope N ps (defScope st)) (len : ∀ vs H Q E, sp vs H Q E → vs.length = ps.length)
    (hb : ∀ (A : Around) (out : List Env) (s : Shared) (H : Hp) (vs : List V) (Q : VK) (E : XK), A.guards = some [] → Room k (A.deeper (envOfC qual (defScope st) s.heap.objs.size f fd.code)) → sp vs H Q E →
      ∃ t, PSs (cxOf CX0 P w K mg base N qual (defScope st) f fd.code A out s H E).nox (defBody st) t ∧ t { nx := fun _ H' => Q .non H', rt := Q } (start N vs) H) : FnG P w K mg base (k + 1) f fd ps sp := by
  obtain ⟨c0, c1, c2, c3, c4, c5, cd, c6, c7, rfl, look, code⟩ := F.ex
  refine ⟨len, fun A out s H as us vs Q E hg room env bind vals want => ?_⟩
  have ln := len _ _ _ _ want
  have old : ∀ b o, base.get? b = some o → s.heap.get? b = some o := fun b o e => (env.bs b o e).1
  have here : K.In s.heap := env.mod.kin.keeps old
  refine codeAny_call_function room.depth (here _ _ look) rfl S.co S.gen rfl (PySem.W.codeRec_of here code) (bind _ _ _ _ ?_)
  refine wpAny_newFunctionEnv_cells S.kind (fun ⟨n, v⟩ m => (S.par n (List.of_mem_zip m).1).elim .inl fun c => .inr ⟨c, PySem.W.cellsFrom_some _ _ _ (.inl c)⟩) fun en he s1 x => ?_
  subst he
  refine ⟨(env.mod.nolimit.keeps old).keeps x.toInCall.keep, codeAny_func ?_⟩
  obtain ⟨t, rule, holds⟩ := hb A out s H vs Q E hg (room.deeper _) want
  have start0 := inv_start (CX := CX0) (E := E) S room.hd env ln vals x
  refine wpAny_mono (rule.nox.run [] s1 (start N vs) H _ start0 holds) (fun r s' z => ?_) fun _ _ z => z
  match r, z with
  | .ret u, ⟨v, σ', H', J, rv, q⟩ => exact ⟨v, H', J.os, J.bare, J.base, J.hok, rv, q⟩
  | .next, ⟨σ', H', J, q⟩ => exact ⟨.non, H', J.os, J.bare, J.base, J.hok, rfl, q⟩
  | .brk, ⟨_, _, _, q⟩ => exact False.elim q
  | .cont, ⟨_, _, _, q⟩ => exact False.elim q
theorem Has.byC {P : Program} {w : World} {K : PySem.W.Frag} {mg : Str → Option Value} {base : Heap} {k : Nat} {x : Str} {ps : List Str} {sp : Sp} {c : Addr} {st : Stmt} {N : List Str} (F : At K mg x st ps) (hc : ∀ f fd, mg x = some (.ref f) → Fun K x x st f fd → fd.code = .ref c) (S : FnScope N ps (defScope st)) (len : ∀ vs H Q E, sp vs H Q E → vs.length = ps.length)
    (hb : ∀ (f : Addr) (A : Around) (out : List Env) (s : Shared) (H : Hp) (vs : List V) (Q : VK) (E : XK), A.guards = some [] → Room k (A.deeper (envOfC x (defScope st) s.heap.objs.size f (.ref c))) → sp vs H Q E →
      ∃ t, PSs (cxOf CX0 P w K mg base N x (defScope st) f (.ref c) A out s H E).nox (defBody st) t ∧ t { nx := fun _ H' => Q .non H', rt := Q } (start N vs) H) : Has P w K mg base (k + 1) x ps sp := by
  obtain ⟨f, fd, F, b, g⟩ := F
  have e := hc f fd g F
  exact ⟨f, fd, .bodyC F S len (by rw [e]; exact hb f), F.kp, b, g, fun_lk F⟩
/-- the def behind a name is the text's -/
theorem CalE.text {P : Program} {w : World} {K : PySem.W.Frag} {mg : Str → Option Value} {base : Heap} {k : Nat} {x : Str} {ps qs : List Str} {f : Addr} {fd : FuncData} {sp : Sp} {st : Stmt} (c : CalE P w K mg base k x ps f fd sp) (F : At K mg x st qs) : Fun K x x st f fd := by
  obtain ⟨f2, fd2, F2, _, g2⟩ := F
  have e := c.g.symm.trans g2
  cases e
  obtain ⟨_, _, _, l⟩ := c.lk
  obtain ⟨_, _, _, l2⟩ := fun_lk F2
  cases l.symm.trans l2
  exact F2
/-! ### all but a place and the tables stay -/
def ButN (a : Addr) (H H' : Hp) : Prop := ∀ b o, b ≠ a → H b = some o → (∀ ps, o ≠ .tbl ps) → H' b = some o
theorem ButN.of {a : Addr} {H H' : Hp} (h : But a H H') : ButN a H H' := fun b o n e _ => h b o n e
theorem ButN.ext {a : Addr} {H H' : Hp} (h : ExtN H H') : ButN a H H' := fun b o _ e n => h b o e n
theorem ButN.trans {a : Addr} {H H1 H2 : Hp} (h : ButN a H H1) (h' : ButN a H1 H2) : ButN a H H2 := fun b o n e t => h' b o n (h b o n e t) t
theorem ButN.refl (a : Addr) (H : Hp) : ButN a H H := fun _ _ _ e _ => e
/-- the tables stand where nothing else is written -/
theorem Tabs.but {T : List (Addr × Str)} {a : Addr} {H H' : Hp} (t : Tabs T H) (b : But a H H') {xs : List V} (e : H a = some (.lst xs)) : Tabs T H' := fun p hp => by
  obtain ⟨ps, h1, h2, h3⟩ := t p hp
  refine ⟨ps, b _ _ (fun z => by rw [z, e] at h1; cases h1) h1, h2, fun pos cv hc => ?_⟩
  obtain ⟨c, e1, e2⟩ := h3 pos cv hc
  refine ⟨c, e1, b _ _ (fun z => ?_) e2⟩
  rw [z, e] at e2
  have e2 := Option.some.inj e2
  unfold CodeO at e2
  cases e2
theorem extN_kt {H H' : Hp} (h : ExtN H H') : Kt H H' := fun a ys e => by
  rcases e with e | ⟨o, e⟩
  · exact .inl (h _ _ e fun _ z => nomatch z)
  · exact .inr ⟨o, h _ _ e fun _ z => nomatch z⟩
end Lj
set_option Elab.async false
set_option linter.all false
set_option maxRecDepth 100000
set_option maxHeartbeats 2000000
/-! # the end, where a def of the law holds lambdas: its table of code objects -/
namespace Lj
open PySem PySem.Spec PyProof.Rows L2 LamX
theorem end_callT {P : Program} {w : World} {K : PySem.W.Frag} {mg mb : Str → Option Value} {k : Nat} {fa a c T : Addr} {fd : FuncData} {x : Str} {sp : Sp} {s : Shared} {vs : List Value} {ns : List Int}
    (kin : K.In s.heap) (glob : s.heap.Ns mainGlobals mg) (blt : s.heap.Ns builtinsNs mb) (same : ∀ x : Str, x ≠ "__name__" → mb x = bootBuiltins x) (lim : s.heap.NoLimit) (gens : s.gens = #[])
    (hT : s.heap.get? T = some { cls := .none, data := .fields #[] }) (nT : K.lookup T = none) (C : PySem.W.CodeHd s.heap c T)
    (hbm : ∃ (bm : Addr) (ob : Obj), mg "__builtins__" = some (.ref bm) ∧ bm ≠ builtinsNs ∧ s.heap.get? bm = some ob ∧ ob.cls = .type "module" ∧ ob.dict = some builtinsNs ∧ ob.data = .plain)
    (obj : s.heap.get? a = some { cls := .type "list", data := .seq vs.toArray }) (numb : IntsAre vs ns) (short : ns.length ≤ sizeLine) (room : Room k callerA)
    (F : ∀ base : Heap, K.In base → base.Ns mainGlobals mg → TabB base mg c T → FnG P w K mg base k fa fd [x] sp) (bind : ∀ (s : Shared) (u : Value), BindsTo s fd ⟨[u], []⟩ [(x, u)])
    (want : ∀ H : Hp, H T = some (.tbl #[]) → SqL K H a (ns.map V.int) → sp [.ref a] H (fun v _ => v = .bl true) fun _ _ _ => False) :
    codeAny (model P w) callerA (.call (.ref fa) ⟨[.ref a], []⟩) (fun r s' => r = .ok (.ret (.bool true)) ∧ OldK s.heap s'.heap ∧ s'.os = s.os ∧ AllBare s'.gens) s := by
  have vals := vals_ints numb
  have aT : a ≠ T := fun z => by
    rw [← z, obj] at hT
    cases congrArg Obj.data (Option.some.inj hT)
  have go : ∀ H : Hp, H T = some (.tbl #[]) → (∀ b, H b = none ∨ b = T ∨ ∃ o xs, H b = some (.frz o (.lst xs))) → SqL K H a (ns.map V.int) → HOk P w H s.heap → (∀ b, H b ≠ none → b = T ∨ (b = a ∧ K.lookup a = none)) →
      codeAny (model P w) callerA (.call (.ref fa) ⟨[.ref a], []⟩) (fun r s' => r = .ok (.ret (.bool true)) ∧ OldK s.heap s'.heap ∧ s'.os = s.os ∧ AllBare s'.gens) s := by
    intro H tab only sq hok at1
    have free : ∀ {b : Addr} {o : Obj}, s.heap.get? b = some o → (∀ vs n, o.data ≠ .seq vs n) → o.data ≠ .fields #[] → H b = none := fun {b o} e h1 h2 => by
      by_cases z : H b = none
      · exact z
      · rcases at1 b z with e2 | ⟨e2, _⟩
        · rw [e2, hT] at e
          cases e
          exact (h2 rfl).elim
        · rw [e2, obj] at e
          cases e
          exact (h1 _ _ rfl).elim
    have dict0 : ∀ {b : Addr} {o : Obj} {es : Array DictEntry} {n : Nat}, s.heap.get? b = some o → o.data = .dict es n → H b = none := fun {b o es n} e d =>
      free e (fun vs m z => by rw [d] at z; cases z) (fun z => by rw [d] at z; cases z)
    have names : ∀ {b : Addr} {m : Str → Option Value}, s.heap.Ns b m → (hidT s.heap H).Ns b m := fun {b m} ⟨o, es, n, e, d, r⟩ => ⟨o, es, n, hidT_get e (dict0 e d), d, r⟩
    have kin2 : K.In (hidT s.heap H) := fun b o e => by
      refine hidT_get (kin b o e) ?_
      by_cases z : H b = none
      · exact z
      · rcases at1 b z with z1 | ⟨z1, z2⟩
        · rw [z1, nT] at e
          cases e
        · rw [z1, z2] at e
          cases e
    have tabB : TabB (hidT s.heap H) mg c T := by
      refine ⟨?_, ?_, fun z => ?_⟩
      · obtain ⟨o, us, file, tf, flags, tg, inF, text, tt, e1, r1, r2, r3, r⟩ := C
        refine ⟨o, us, file, tf, flags, tg, inF, text, tt, hidT_get e1 (free e1 (fun vs n z => ?_) fun z => ?_), r1, r2, r3, r⟩
        · rw [r2] at z
          cases z
        · rw [r2] at z
          cases z
          simp at r3
      · obtain ⟨bm, ob, b1, b2, b3, b4, b5, b6⟩ := hbm
        have n1 : bm ≠ mainGlobals := fun q => by
          obtain ⟨o, es, n, e, d, _⟩ := glob
          rw [q, e] at b3
          cases b3
          rw [d] at b6
          cases b6
        have n2 : bm ≠ T := fun q => by
          rw [q, hT] at b3
          cases b3
          cases b6
        exact ⟨bm, ob, b1, b2, n1, n2, hidT_get b3 (free b3 (fun vs n z => by rw [b6] at z; cases z) fun z => by rw [b6] at z; cases z), b4, b5, b6⟩
      · obtain ⟨o, es, n, e, d, _⟩ := glob
        rw [z, hT] at e
        cases e
        cases d
    obtain ⟨mc, l1, l2⟩ := lim
    have env : Env0 P w K mg (hidT s.heap H) callerA [] s H :=
      ⟨rfl, ⟨kin2, names glob, ⟨mb, names blt, same⟩, ⟨mc, names l1, l2⟩⟩, fun b o e => of_hidT e, Nat.le_of_eq (hidT_size _ _), trivial, fun b m => absurd (show b ∈ ([] : List Addr) from m) List.not_mem_nil, hok, AllBare.of_eq gens⟩
    refine codeAny_mono ((F _ kin2 (names glob) tabB).run callerA [] s H ⟨[.ref a], []⟩ [.ref a] [.ref a] _ _ rfl room env (bind s (.ref a)) (.cons rfl .nil) (want H tab sq)) fun r s' z => ?_
    match r, z with
    | .error _, z => exact z.elim
    | .ok .next, z => exact z.elim
    | .ok .brk, z => exact z.elim
    | .ok .cont, z => exact z.elim
    | .ok (.ret u), ⟨v, H', os, bare, un, hok2, rv, q⟩ =>
      have q : v = .bl true := q
      subst q
      obtain rfl : u = Value.bool true := rv
      have stay : ∀ b o, b ≠ T → s.heap.get? b = some o → s'.heap.get? b = some o := fun b o nb e => by
        by_cases z : H b = none
        · exact un.keep b o e z (fun m => absurd (show b ∈ ([] : List Addr) from m) List.not_mem_nil) List.not_mem_nil
        · rcases only b with y | y | ⟨ob, xs, y⟩
          · exact absurd y z
          · exact absurd y nb
          · have e1 := (hok b _ y).1
            have e2 := (hok2 b _ (un.frzs b ob _ y)).1
            rw [e] at e1
            cases e1
            exact e2
      obtain ⟨more, grown⟩ := un.tbls T #[] tab
      have now : s'.heap.get? T = some { cls := .none, data := .fields (#[] ++ more) } := hok2 T _ grown
      refine ⟨rfl, ⟨fun b o e => ?_, fun b o e => ?_⟩, os, bare⟩
      · by_cases hb : b = T
        · subst hb
          rw [hT] at e
          cases e
          exact .inr (.inl ⟨(C.tab hT).isCodeTable, rfl, #[], more, rfl, now⟩)
        · exact .inl (stay b o hb e)
      · by_cases hb : b = T
        · subst hb
          exact ⟨_, now⟩
        · exact ⟨o, stay b o hb e⟩
  by_cases hk : K.lookup a = none
  · refine go (fun b => if b = a then some (.frz { cls := .type "list", data := .seq vs.toArray } (.lst (ns.map V.int))) else if b = T then some (.tbl #[]) else none) ((if_neg (Ne.symm aT)).trans (if_pos rfl)) (fun b => ?_) (.inl (.inr ⟨_, if_pos rfl⟩)) (fun b u e => ?_) (fun b e => ?_)
    · by_cases y : b = a
      · exact .inr (.inr ⟨_, _, if_pos y⟩)
      · by_cases y2 : b = T
        · exact .inr (.inl y2)
        · exact .inl ((if_neg y).trans (if_neg y2))
    · by_cases y : b = a
      · cases (if_pos y).symm.trans e
        subst y
        exact ⟨obj, by rw [List.length_map]; exact short, vs, _, vals, obj⟩
      · have e := (if_neg y).symm.trans e
        by_cases y2 : b = T
        · cases (if_pos y2).symm.trans e
          subst y2
          exact hT
        · cases (if_neg y2).symm.trans e
    · by_cases y : b = a
      · exact .inr ⟨y, hk⟩
      · by_cases y2 : b = T
        · exact .inl y2
        · exact absurd ((if_neg y).trans (if_neg y2)) e
  · obtain ⟨o, ho⟩ := Option.ne_none_iff_exists'.mp hk
    have e := kin a o ho
    rw [obj] at e
    cases e
    refine go (fun b => if b = T then some (.tbl #[]) else none) (if_pos rfl) (fun b => ?_) (.inr ⟨_, vs.toArray, _, ho, rfl, rfl, rfl, ?_, vals⟩) (fun b u e => ?_) (fun b e => ?_)
    · by_cases y2 : b = T
      · exact .inr (.inl y2)
      · exact .inl (if_neg y2)
    · rw [List.size_toArray, numb.length]
      exact short
    · by_cases y2 : b = T
      · cases (if_pos y2).symm.trans e
        subst y2
        exact hT
      · cases (if_neg y2).symm.trans e
    · by_cases y2 : b = T
      · exact .inl y2
      · exact absurd (if_neg y2) e
/-- the table of the def y, as the head leaves it -/
def TabOf (mg : Str → Option Value) (y : Str) (h : Heap) : Prop := ∃ (f : Addr) (o : Obj) (fd : FuncData) (c T : Addr), mg y = some (.ref f) ∧ h.get? f = some o ∧ o.data = .func fd ∧ fd.code = .ref c ∧ PySem.W.CodeHd h c T ∧ h.get? T = some { cls := .none, data := .fields #[] } ∧ ∃ oc vc, h.get? c = some oc ∧ oc.data = .fields vc ∧ vc[11]? = some (.ref T)
/-- told of the written part: the def's code object stands at c, its table at T -/
theorem TabOf.at {K : PySem.W.Frag} {mg : Str → Option Value} {y : Str} {h : Heap} (t : TabOf mg y h) (kin : K.In h) {f c T : Addr} {oc e : Value} {od ed : Option Addr} {fd : FuncData} {osl esl : Array (Option Value)} {vs : Array Value} (g : mg y = some (.ref f)) (l : K.lookup f = some ⟨oc, od, .func fd, osl⟩) (hc : fd.code = .ref c)
    (lc : K.lookup c = some ⟨e, ed, .fields vs, esl⟩) (hv : vs[11]? = some (.ref T)) : PySem.W.CodeHd h c T ∧ h.get? T = some { cls := .none, data := .fields #[] } := by
  obtain ⟨f', o, fd', c', T', g', ho, hd, hc', C, hT, oc', vc, e1, e2, e3⟩ := t
  cases g.symm.trans g'
  cases (kin _ _ l).symm.trans ho
  cases hd
  cases hc.symm.trans hc'
  cases (kin _ _ lc).symm.trans e1
  cases e2
  cases hv.symm.trans e3
  exact ⟨C, hT⟩
theorem walk_GT {l : PySem.W.OpenLaw} {n k : Nat} {q : Program} {loose : List Str} {XP : (Str → Option Value) → Heap → Prop} {YP : World → Heap → Prop} {d : DefRec} {K : Params → PySem.W.Frag} {sp : PySem.W.Frag → Addr → Sp} {x : Str} (y : Str)
    (hn : l.most = some n) (hn2 : n ≤ sizeLine) (hdf : d.params.defaults = []) (hr : Room k callerA) (hrec : ((recsOf q).any fun e => e.name == y) = true) (hY : ∀ (w : World) (h : Heap), YP w h → (K w.params).In h)
    (F : ∀ (w : World) (mg : Str → Option Value) (fa : Addr) (h : Heap), (K w.params).In h → h.Ns mainGlobals mg → mg d.name = some (.ref fa) → TabOf mg y h →
      ∃ (fd : FuncData) (c T : Addr), PySem.W.CodeHd h c T ∧ h.get? T = some { cls := .none, data := .fields #[] } ∧ (K w.params).lookup T = none ∧ (∀ (s : Shared) (u : Value), BindsTo s fd ⟨[u], []⟩ [(x, u)]) ∧
        ∀ base : Heap, (K w.params).In base → base.Ns mainGlobals mg → TabB base mg c T → FnG l.prog w (K w.params) mg base k fa fd [x] (sp (K w.params) T))
    (want : ∀ (K : PySem.W.Frag) (T : Addr) (H : Hp) (a : Addr) (ns : List Int), ns.length ≤ n → H T = some (.tbl #[]) → SqL K H a (ns.map V.int) → sp K T [.ref a] H (fun v _ => v = .bl true) fun _ _ _ => False) :
    PySem.W.WalkO q loose XP YP l.row.toRowW d [] (fun f vs => PySem.call f vs) := by
  refine Att.attach_callB hn hdf fun w s0 s mg mb fa o pm cd doc a vs ns G Y _ _ _ hmg obj numb short _ gens => ?_
  have kin := hY w _ Y
  obtain ⟨dL, hm, hn1⟩ := List.any_eq_true.mp hrec
  have nm : dL.name = y := beq_iff_eq.mp hn1
  obtain ⟨f, o', fd', c, T, h1, h2, h3, h4, h5, h6⟩ := G.T.tab dL hm
  rw [nm] at h1
  have tab : TabOf mg y s.heap := by
    obtain ⟨⟨oc, vc, e1, _, e3, e4⟩, hP⟩ := id h6
    exact ⟨f, o', fd', c, T, h1, h2, h3, h4, PySem.W.CodeHd.of h5 h6, hP, oc, vc, e1, e3, e4⟩
  obtain ⟨fd, c, T, C, hT, nT, bind, ok⟩ := F w mg fa _ kin G.T.g hmg tab
  exact end_callT kin G.T.g G.T.b G.T.builtins G.T.nolimit gens hT nT C G.T.bmain obj numb (Nat.le_trans short hn2) hr ok bind fun H t sq => want _ T H a ns short t sq
end Lj
set_option Elab.async false
set_option linter.all false
set_option maxRecDepth 100000
namespace Lj
open PySem PySem.Spec PyProof.Rows L2
/-! ### tuple * number, from none on -/
end Lj
set_option Elab.async false
set_option linter.all false
set_option maxRecDepth 100000
namespace Lj
open PySem PySem.Spec PyProof.Rows L2
/-! ### tuple * 2, also of none -/
end Lj
set_option Elab.async false
set_option linter.all false
set_option maxRecDepth 100000
namespace Lj
open PySem PySem.Spec PyProof.Rows L2
/-! ### rows moved by steps -/
def exT (p : Int) (t : Tr) (r : List Int) : List Int := match t with
  | .op w as => exRow p w as r
  | .loop _ _ => r
def act (p : Int) (E : List Tr) (r : List Int) : List Int := E.foldl (fun r t => exT p t r) r
theorem act_append (p : Int) (E F : List Tr) (r : List Int) : act p (E ++ F) r = act p F (act p E r) := List.foldl_append
theorem act_cons (p : Int) (t : Tr) (F : List Tr) (r : List Int) : act p (t :: F) r = act p F (exT p t r) := rfl
def gN (r : List Int) (j : Nat) : Int := r.getD j 0
theorem gN_sv {r : List Int} {i v : Int} {j : Nat} (h : i.toNat < r.length) : gN (sv r i v) j = if i.toNat = j then v else gN r j := by
  unfold gN sv
  rw [List.getD_eq_getElem?_getD, List.getD_eq_getElem?_getD, List.getElem?_set]
  by_cases e : i.toNat = j
  · rw [if_pos e, if_pos e, if_pos (e ▸ h)]
    rfl
  · rw [if_neg e, if_neg e]
theorem ext_gN {N : Nat} {a b : List Int} (ha : a.length = N) (hb : b.length = N) (h : ∀ j, j < N → gN a j = gN b j) : a = b := by
  refine List.ext_getElem (by omega) fun j h1 h2 => ?_
  have := h j (by omega)
  unfold gN at this
  rw [List.getD_eq_getElem?_getD, List.getD_eq_getElem?_getD, List.getElem?_eq_getElem h1, List.getElem?_eq_getElem h2] at this
  exact this
theorem dvd_mod (p x : Int) : p ∣ x % p - x := ⟨-(x / p), by rw [Int.emod_def]; grind⟩
theorem dvd_self (p x : Int) : p ∣ x - x := ⟨0, by grind⟩
theorem dvd_trans3 {p x y z : Int} (a : p ∣ x - y) (b : p ∣ y - z) : p ∣ x - z := by
  obtain ⟨u, hu⟩ := a
  obtain ⟨v, hv⟩ := b
  exact ⟨u + v, by grind⟩
theorem in_eq {p x y : Int} (x0 : 0 ≤ x) (x1 : x < p) (y0 : 0 ≤ y) (y1 : y < p) (h : p ∣ x - y) : x = y := by
  have e : (x - y) % p = 0 := Int.emod_eq_zero_of_dvd h
  have := Int.emod_emod_of_dvd (x - y) (Int.dvd_refl p)
  have a : x % p = x := Int.emod_eq_of_lt x0 x1
  have b : y % p = y := Int.emod_eq_of_lt y0 y1
  have c : (x - y) % p = (x % p - y % p) % p := Int.sub_emod x y p
  obtain ⟨u, hu⟩ := h
  by_cases u0 : u = 0
  · subst u0
    omega
  · rcases Int.lt_or_gt_of_ne u0 with h | h
    · have : p * u ≤ p * (-1) := Int.mul_le_mul_of_nonneg_left (by omega) (by omega)
      omega
    · have : p * 1 ≤ p * u := Int.mul_le_mul_of_nonneg_left (by omega) (by omega)
      omega
/-- each entry behind a step is a sum of two entries before it -/
theorem ex_form {p n : Int} {w : Str} {as : List Int} (g : GoodOp p n w as) {N : Nat} (hN : (N : Int) = n + 1) {j : Nat} (hj : j < N) :
    ∃ (a b : Int) (k l : Nat), k < N ∧ l < N ∧ ∀ r : List Int, r.length = N → p ∣ gN (exRow p w as r) j - (a * gN r k + b * gN r l) := by
  have keep : ∀ r : List Int, p ∣ gN r j - (1 * gN r j + 0 * gN r j) := fun r => ⟨0, by grind⟩
  rcases g with ⟨rfl | rfl, x, c, rfl, x0, x1, _⟩ | ⟨rfl | rfl, x, rfl, _⟩ | ⟨rfl | rfl, x, y, rfl, x0, x1, y0, y1, xy⟩ | ⟨rfl, x, y, c, rfl, x0, x1, y0, y1, _⟩
  · by_cases e : (x + 1).toNat = j
    · refine ⟨c, 0, 0, 0, by omega, by omega, fun r hr => ?_⟩
      rw [ex_set, gN_sv (by omega), if_pos e]
      obtain ⟨u, hu⟩ := dvd_mod p (c * gt r 0)
      exact ⟨u, by show c * gt r 0 % p - (c * gt r 0 + 0 * gt r 0) = _; grind⟩
    · refine ⟨1, 0, j, j, hj, hj, fun r hr => ?_⟩
      rw [ex_set, gN_sv (by omega), if_neg e]
      exact keep r
  · by_cases e : (x + 1).toNat = j
    · refine ⟨c, 0, (x + 1).toNat, 0, by omega, by omega, fun r hr => ?_⟩
      rw [ex_scale, gN_sv (by omega), if_pos e]
      obtain ⟨u, hu⟩ := dvd_mod p (c * gt r (x + 1))
      exact ⟨u, by show c * gt r (x + 1) % p - (c * gt r (x + 1) + 0 * gN r 0) = _; grind⟩
    · refine ⟨1, 0, j, j, hj, hj, fun r hr => ?_⟩
      rw [ex_scale, gN_sv (by omega), if_neg e]
      exact keep r
  · exact ⟨1, 0, j, j, hj, hj, fun r hr => keep r⟩
  · exact ⟨1, 0, j, j, hj, hj, fun r hr => keep r⟩
  · by_cases e : (x + 1).toNat = j
    · refine ⟨1, 0, (y + 1).toNat, 0, by omega, by omega, fun r hr => ?_⟩
      rw [ex_copy, gN_sv (by omega), if_pos e]
      exact ⟨0, by show gt r (y + 1) - (1 * gt r (y + 1) + 0 * gN r 0) = _; grind⟩
    · refine ⟨1, 0, j, j, hj, hj, fun r hr => ?_⟩
      rw [ex_copy, gN_sv (by omega), if_neg e]
      exact keep r
  · by_cases e2 : (y + 1).toNat = j
    · refine ⟨1, 0, (x + 1).toNat, 0, by omega, by omega, fun r hr => ?_⟩
      rw [ex_swap, gN_sv (by rw [sv_len]; omega), if_pos e2]
      exact ⟨0, by show gt r (x + 1) - (1 * gt r (x + 1) + 0 * gN r 0) = _; grind⟩
    · by_cases e : (x + 1).toNat = j
      · refine ⟨1, 0, (y + 1).toNat, 0, by omega, by omega, fun r hr => ?_⟩
        rw [ex_swap, gN_sv (by rw [sv_len]; omega), if_neg e2, gN_sv (by omega), if_pos e]
        exact ⟨0, by show gt r (y + 1) - (1 * gt r (y + 1) + 0 * gN r 0) = _; grind⟩
      · refine ⟨1, 0, j, j, hj, hj, fun r hr => ?_⟩
        rw [ex_swap, gN_sv (by rw [sv_len]; omega), if_neg e2, gN_sv (by omega), if_neg e]
        exact keep r
  · by_cases e : (x + 1).toNat = j
    · refine ⟨1, c, (x + 1).toNat, (y + 1).toNat, by omega, by omega, fun r hr => ?_⟩
      rw [ex_add, gN_sv (by omega), if_pos e]
      obtain ⟨u, hu⟩ := dvd_mod p (gt r (x + 1) + c * gt r (y + 1))
      exact ⟨u, by show (gt r (x + 1) + c * gt r (y + 1)) % p - (1 * gt r (x + 1) + c * gt r (y + 1)) = _; grind⟩
    · refine ⟨1, 0, j, j, hj, hj, fun r hr => ?_⟩
      rw [ex_add, gN_sv (by omega), if_neg e]
      exact keep r
theorem act_len {p n : Int} : ∀ {E : List Tr} {r : List Int}, Goods p n E → (act p E r).length = r.length
  | [], _, _ => rfl
  | t :: E, r, g => by
    obtain ⟨w, as, rfl, go⟩ := g t List.mem_cons_self
    rw [act_cons, act_len (fun u m => g u (List.mem_cons_of_mem _ m))]
    exact ex_len go
theorem in_act {p n : Int} (p0 : 0 < p) : ∀ {E : List Tr} {r : List Int}, Goods p n E → In p r → In p (act p E r)
  | [], _, _, h => h
  | t :: E, r, g, h => by
    obtain ⟨w, as, rfl, go⟩ := g t List.mem_cons_self
    rw [act_cons]
    exact in_act p0 (fun u m => g u (List.mem_cons_of_mem _ m)) (in_ex go p0 h)
/-- sums go through steps -/
theorem act_comb {p n : Int} {N : Nat} (hN : (N : Int) = n + 1) {m : Nat} {c : Nat → Int} : ∀ {E : List Tr} {X : List Int} {Y : Nat → List Int}, Goods p n E → X.length = N → (∀ i, i < m → (Y i).length = N) →
    (∀ j, j < N → p ∣ gN X j - sumF (fun i => c i * gN (Y i) j) m) → ∀ j, j < N → p ∣ gN (act p E X) j - sumF (fun i => c i * gN (act p E (Y i)) j) m
  | [], _, _, _, _, _, h => h
  | t :: E, X, Y, g, hX, hY, h => by
    obtain ⟨w, as, rfl, go⟩ := g t List.mem_cons_self
    refine act_comb hN (E := E) (X := exRow p w as X) (Y := fun i => exRow p w as (Y i)) (fun u m => g u (List.mem_cons_of_mem _ m)) (by rw [ex_len go, hX]) (fun i hi => by rw [ex_len go, hY i hi]) fun j hj => ?_
    obtain ⟨a, b, k, l, hk, hl, e⟩ := ex_form go hN hj
    have h1 := e X hX
    obtain ⟨u, hu⟩ := h k hk
    obtain ⟨v, hv⟩ := h l hl
    have h2 : p ∣ (a * gN X k + b * gN X l) - sumF (fun i => a * (c i * gN (Y i) k) + b * (c i * gN (Y i) l)) m := by
      rw [sumF_lin]
      exact ⟨a * u + b * v, by grind⟩
    have h3 : p ∣ sumF (fun i => a * (c i * gN (Y i) k) + b * (c i * gN (Y i) l)) m - sumF (fun i => c i * gN (exRow p w as (Y i)) j) m := by
      refine sumF_dvd fun i hi => ?_
      obtain ⟨z, hz⟩ := e (Y i) (hY i hi)
      exact ⟨-(c i * z), by grind⟩
    exact dvd_trans3 h1 (dvd_trans3 h2 h3)
/-! ### units, matrices -/
def un (N k : Nat) : List Int := (List.replicate N 0).set k 1
theorem un_len (N k : Nat) : (un N k).length = N := by rw [un, List.length_set, List.length_replicate]
theorem un_gN {N k : Nat} (hk : k < N) (j : Nat) : gN (un N k) j = if k = j then 1 else 0 := by
  unfold gN un
  rw [List.getD_eq_getElem?_getD, List.getElem?_set]
  by_cases e : k = j
  · rw [if_pos e, if_pos e, if_pos (by rw [List.length_replicate]; omega)]
    rfl
  · rw [if_neg e, if_neg e, List.getElem?_replicate]
    split <;> rfl
theorem un_in {p : Int} (p0 : 2 ≤ p) (N k : Nat) : In p (un N k) := fun x m => by
  rcases List.mem_or_eq_of_mem_set m with m | rfl
  · rw [List.eq_of_mem_replicate m]
    omega
  · omega
theorem sumF_pick {N : Nat} (f : Nat → Int) {j : Nat} (hj : j < N) : sumF (fun i => f i * (if i = j then 1 else 0)) N = f j := by
  induction N with
  | zero => omega
  | succ N ih =>
    rw [sumF]
    by_cases e : N = j
    · subst e
      rw [sumF_zero (fun k hk => by rw [if_neg (by omega), Int.mul_zero]), if_pos rfl]
      omega
    · rw [ih (by omega), if_neg e]
      omega
def mat (p : Int) (N : Nat) (E : List Tr) : List (List Int) := (List.range N).map fun i => act p E (un N i)
theorem map_gN {N : Nat} (f : Nat → Int) {j : Nat} (h : j < N) : gN ((List.range N).map f) j = f j := by
  unfold gN
  rw [List.getD_eq_getElem?_getD, List.getElem?_map, List.getElem?_range h]
  rfl
theorem gN_in {p : Int} {r : List Int} (h : In p r) (p0 : 0 < p) (j : Nat) : 0 ≤ gN r j ∧ gN r j < p := by
  have := in_gt h p0 (j : Int)
  unfold gt at this
  rwa [Int.toNat_natCast] at this
/-! ### rounds -/
def rp (k : Nat) (E : List Tr) : List Tr := (List.replicate k E).flatten
theorem rp_add (a b : Nat) (E : List Tr) : rp (a + b) E = rp a E ++ rp b E := by rw [rp, ← List.replicate_append_replicate, List.flatten_append]; rfl
theorem rp_len (k : Nat) (E : List Tr) : (rp k E).length = k * E.length := flat_len k E
/-! ### weights pulled back -/
/-- behind E the weights f give what before it g gives -/
def Adj (p : Int) (N : Nat) (E : List Tr) (f g : List Int) : Prop := g.length = N ∧ In p g ∧ ∀ r : List Int, r.length = N → p ∣ dot N (gN (act p E r)) (gN f) - dot N (gN r) (gN g)
theorem Adj.comp {p n : Int} {N : Nat} {D E : List Tr} {f g h : List Int} (gD : Goods p n D) (a : Adj p N E f g) (b : Adj p N D g h) : Adj p N (D ++ E) f h := by
  refine ⟨b.1, b.2.1, fun r hr => ?_⟩
  rw [act_append]
  exact dvd_trans3 (a.2.2 _ ((act_len gD).trans hr)) (b.2.2 r hr)
theorem dot_svL {N : Nat} {r : List Int} {i v : Int} (e : Nat → Int) (h : i.toNat < r.length) (hN : i.toNat < N) : dot N (gN (sv r i v)) e = dot N (gN r) e + (v - gN r i.toNat) * e i.toNat := by
  unfold dot
  have a : sumF (fun k => gN (sv r i v) k * e k) N = sumF (fun k => 1 * (gN r k * e k) + 1 * ((v - gN r i.toNat) * e i.toNat * (if k = i.toNat then 1 else 0))) N := sumF_cong fun k _ => by
    rw [gN_sv h]
    by_cases c : i.toNat = k
    · subst c
      rw [if_pos rfl, if_pos rfl]
      grind
    · rw [if_neg c, if_neg (Ne.symm c)]
      grind
  rw [a, sumF_lin, sumF_pick (fun _ => (v - gN r i.toNat) * e i.toNat) hN]
  omega
theorem dot_comm (N : Nat) (a b : Nat → Int) : dot N a b = dot N b a := sumF_cong fun k _ => Int.mul_comm _ _
theorem dot_svR {N : Nat} {r : List Int} {i v : Int} (e : Nat → Int) (h : i.toNat < r.length) (hN : i.toNat < N) : dot N e (gN (sv r i v)) = dot N e (gN r) + e i.toNat * (v - gN r i.toNat) := by
  rw [dot_comm, dot_svL e h hN, dot_comm, Int.mul_comm]
def plRow (p : Int) (w : Str) (as f : List Int) : List Int := match as with
  | [x] => if w = "read" then sv f (x + 1) 0 else f
  | [x, c] => if w = "set" then sv (sv f 0 ((gt f 0 + c * gt f (x + 1)) % p)) (x + 1) 0 else if w = "scale" then sv f (x + 1) (c * gt f (x + 1) % p)
    else if w = "copy" then sv (sv f (c + 1) ((gt f (c + 1) + gt f (x + 1)) % p)) (x + 1) 0 else if w = "swap" then sv (sv f (x + 1) (gt f (c + 1))) (c + 1) (gt f (x + 1)) else f
  | [x, y, c] => sv f (y + 1) ((gt f (y + 1) + c * gt f (x + 1)) % p)
  | _ => f
theorem pl_read (p x : Int) (f : List Int) : plRow p "read" [x] f = sv f (x + 1) 0 := by
  unfold plRow
  exact if_pos rfl
theorem pl_write (p x : Int) (f : List Int) : plRow p "write" [x] f = f := by
  unfold plRow
  exact if_neg (by decide)
theorem pl_set (p x c : Int) (f : List Int) : plRow p "set" [x, c] f = sv (sv f 0 ((gt f 0 + c * gt f (x + 1)) % p)) (x + 1) 0 := by
  unfold plRow
  exact if_pos rfl
theorem pl_scale (p x c : Int) (f : List Int) : plRow p "scale" [x, c] f = sv f (x + 1) (c * gt f (x + 1) % p) := by
  unfold plRow
  exact (if_neg (by decide)).trans (if_pos rfl)
theorem pl_copy (p x c : Int) (f : List Int) : plRow p "copy" [x, c] f = sv (sv f (c + 1) ((gt f (c + 1) + gt f (x + 1)) % p)) (x + 1) 0 := by
  unfold plRow
  exact (if_neg (by decide)).trans ((if_neg (by decide)).trans (if_pos rfl))
theorem pl_swap (p x c : Int) (f : List Int) : plRow p "swap" [x, c] f = sv (sv f (x + 1) (gt f (c + 1))) (c + 1) (gt f (x + 1)) := by
  unfold plRow
  exact (if_neg (by decide)).trans ((if_neg (by decide)).trans ((if_neg (by decide)).trans (if_pos rfl)))
theorem pl_add (p x y c : Int) (f : List Int) : plRow p "add" [x, y, c] f = sv f (y + 1) ((gt f (y + 1) + c * gt f (x + 1)) % p) := rfl
theorem pl_in {p n : Int} {w : Str} {as f : List Int} (g : GoodOp p n w as) (p0 : 0 < p) (h : In p f) : In p (plRow p w as f) := by
  have z0 : (0 : Int) ≤ 0 := by omega
  rcases g with ⟨rfl | rfl, x, c, rfl, _⟩ | ⟨rfl | rfl, x, rfl, _⟩ | ⟨rfl | rfl, x, y, rfl, _⟩ | ⟨rfl, x, y, c, rfl, _⟩
  · rw [pl_set]
    exact in_sv (in_sv h (in_mod p0 _).1 (in_mod p0 _).2) z0 p0
  · rw [pl_scale]
    exact in_sv h (in_mod p0 _).1 (in_mod p0 _).2
  · rw [pl_read]
    exact in_sv h z0 p0
  · rw [pl_write]
    exact h
  · rw [pl_copy]
    exact in_sv (in_sv h (in_mod p0 _).1 (in_mod p0 _).2) z0 p0
  · rw [pl_swap]
    exact in_sv (in_sv h (in_gt h p0 _).1 (in_gt h p0 _).2) (in_gt h p0 _).1 (in_gt h p0 _).2
  · rw [pl_add]
    exact in_sv h (in_mod p0 _).1 (in_mod p0 _).2
theorem pl_len {p n : Int} {w : Str} {as f : List Int} (g : GoodOp p n w as) : (plRow p w as f).length = f.length := by
  rcases g with ⟨rfl | rfl, x, c, rfl, _⟩ | ⟨rfl | rfl, x, rfl, _⟩ | ⟨rfl | rfl, x, y, rfl, _⟩ | ⟨rfl, x, y, c, rfl, _⟩
  · rw [pl_set, sv_len, sv_len]
  · rw [pl_scale, sv_len]
  · rw [pl_read, sv_len]
  · rw [pl_write]
  · rw [pl_copy, sv_len, sv_len]
  · rw [pl_swap, sv_len, sv_len]
  · rw [pl_add, sv_len]
theorem adj_one {p n : Int} (p0 : 0 < p) {N : Nat} (hN : (N : Int) = n + 1) {w : Str} {as f : List Int} (g : GoodOp p n w as) (nr : w ≠ "read") (hf : f.length = N) (iF : In p f) : Adj p N [.op w as] f (plRow p w as f) := by
  refine ⟨(pl_len g).trans hf, pl_in g p0 iF, fun r hr => ?_⟩
  show p ∣ dot N (gN (exRow p w as r)) (gN f) - _
  rcases g with ⟨rfl | rfl, x, c, rfl, x0, x1, _⟩ | ⟨rfl | rfl, x, rfl, _⟩ | ⟨rfl | rfl, x, y, rfl, x0, x1, y0, y1, xy⟩ | ⟨rfl, x, y, c, rfl, x0, x1, y0, y1, xy, _⟩
  · rw [ex_set, pl_set, dot_svL _ (by omega) (by omega), dot_svR _ (by rw [sv_len]; omega) (by omega), dot_svR _ (show (0 : Int).toNat < f.length from by show 0 < _; omega) (by show 0 < N; omega), gN_sv (show (0 : Int).toNat < f.length from by show 0 < _; omega), if_neg (by show ¬ (0 = (x + 1).toNat); omega)]
    obtain ⟨u, hu⟩ := dvd_mod p (c * gt r 0)
    obtain ⟨v, hv⟩ := dvd_mod p (gt f 0 + c * gt f (x + 1))
    generalize c * gt r 0 % p = A at *
    generalize (gt f 0 + c * gt f (x + 1)) % p = B at *
    have e1 : gN f (x + 1).toNat = gt f (x + 1) := rfl
    have e2 : gN r (x + 1).toNat = gt r (x + 1) := rfl
    have e3 : gN f (0 : Int).toNat = gt f 0 := rfl
    have e4 : gN r (0 : Int).toNat = gt r 0 := rfl
    rw [e1, e2, e3, e4]
    exact ⟨u * gt f (x + 1) - gt r 0 * v, by grind⟩
  · rw [ex_scale, pl_scale, dot_svL _ (by omega) (by omega), dot_svR _ (by omega) (by omega)]
    obtain ⟨u, hu⟩ := dvd_mod p (c * gt r (x + 1))
    obtain ⟨v, hv⟩ := dvd_mod p (c * gt f (x + 1))
    generalize c * gt r (x + 1) % p = A at *
    generalize c * gt f (x + 1) % p = B at *
    have e1 : gN f (x + 1).toNat = gt f (x + 1) := rfl
    have e2 : gN r (x + 1).toNat = gt r (x + 1) := rfl
    rw [e1, e2]
    exact ⟨u * gt f (x + 1) - gt r (x + 1) * v, by grind⟩
  · exact absurd rfl nr
  · rw [pl_write]
    exact dvd_self _ _
  · rw [ex_copy, pl_copy, dot_svL _ (by omega) (by omega), dot_svR _ (by rw [sv_len]; omega) (by omega), dot_svR _ (by omega) (by omega), gN_sv (by omega), if_neg (by omega)]
    obtain ⟨v, hv⟩ := dvd_mod p (gt f (y + 1) + gt f (x + 1))
    generalize (gt f (y + 1) + gt f (x + 1)) % p = B at *
    have e1 : gN f (x + 1).toNat = gt f (x + 1) := rfl
    have e2 : gN r (x + 1).toNat = gt r (x + 1) := rfl
    have e3 : gN f (y + 1).toNat = gt f (y + 1) := rfl
    have e4 : gN r (y + 1).toNat = gt r (y + 1) := rfl
    rw [e1, e2, e3, e4]
    exact ⟨- (gt r (y + 1) * v), by grind⟩
  · rw [ex_swap, pl_swap, dot_svL _ (by rw [sv_len]; omega) (by omega), dot_svL _ (by omega) (by omega), dot_svR _ (by rw [sv_len]; omega) (by omega), dot_svR _ (by omega) (by omega), gN_sv (by omega), if_neg (by omega), gN_sv (by omega), if_neg (by omega)]
    have e1 : gN f (x + 1).toNat = gt f (x + 1) := rfl
    have e2 : gN r (x + 1).toNat = gt r (x + 1) := rfl
    have e3 : gN f (y + 1).toNat = gt f (y + 1) := rfl
    have e4 : gN r (y + 1).toNat = gt r (y + 1) := rfl
    rw [e1, e2, e3, e4]
    exact ⟨0, by grind⟩
  · rw [ex_add, pl_add, dot_svL _ (by omega) (by omega), dot_svR _ (by omega) (by omega)]
    obtain ⟨u, hu⟩ := dvd_mod p (gt r (x + 1) + c * gt r (y + 1))
    obtain ⟨v, hv⟩ := dvd_mod p (gt f (y + 1) + c * gt f (x + 1))
    generalize (gt r (x + 1) + c * gt r (y + 1)) % p = A at *
    generalize (gt f (y + 1) + c * gt f (x + 1)) % p = B at *
    have e1 : gN f (x + 1).toNat = gt f (x + 1) := rfl
    have e2 : gN r (x + 1).toNat = gt r (x + 1) := rfl
    have e3 : gN f (y + 1).toNat = gt f (y + 1) := rfl
    have e4 : gN r (y + 1).toNat = gt r (y + 1) := rfl
    rw [e1, e2, e3, e4]
    exact ⟨u * gt f (x + 1) - gt r (y + 1) * v, by grind⟩
/-! ### with reads -/
/-- behind E the weights f give what before it g gives, and the inputs with the weights cs -/
def AdjR (p : Int) (N : Nat) (E : List Tr) (f g cs : List Int) : Prop := g.length = N ∧ In p g ∧ In p cs ∧ (cs.length : Int) = rc E ∧
  ∀ (is : List Int) (s : RS), s.row.length = N → p ∣ dot N (gN (rns p is s E).row) (gN f) - (dot N (gN s.row) (gN g) + sumF (fun j => gN cs j * gN is (s.tk + j)) cs.length)
theorem rns_act {p n : Int} {is : List Int} : ∀ {E : List Tr} {s : RS}, Goods p n E → (∀ t ∈ E, t.word ≠ "read") → (rns p is s E).row = act p E s.row
  | [], _, _, _ => rfl
  | t :: E, s, g, nr => by
    obtain ⟨w, as, rfl, go⟩ := g t List.mem_cons_self
    have n1 : w ≠ "read" := nr _ List.mem_cons_self
    show (rns p is (stp p is s (.op w as)) E).row = act p E (exRow p w as s.row)
    rw [rns_act (fun u m => g u (List.mem_cons_of_mem _ m)) fun u m => nr u (List.mem_cons_of_mem _ m)]
    by_cases h2 : w = "write"
    · subst h2
      rw [stp_write]
      rcases go with ⟨a | a, _⟩ | ⟨_, x, rfl, _⟩ | ⟨a | a, _⟩ | ⟨a, _⟩
      · exact absurd a (by decide)
      · exact absurd a (by decide)
      · rfl
      · exact absurd a (by decide)
      · exact absurd a (by decide)
      · exact absurd a (by decide)
    · rw [stp_else n1 h2]
theorem rc_zero {E : List Tr} (nr : ∀ t ∈ E, t.word ≠ "read") : rc E = 0 := by
  show (((E.map Tr.word).count ("read" : Str) : Nat) : Int) = 0
  rw [List.count_eq_zero_of_not_mem fun m => by
    obtain ⟨t, ht, e⟩ := List.mem_map.mp m
    exact nr t ht e]
  rfl
theorem Adj.toR {p n : Int} {N : Nat} {E : List Tr} {f g : List Int} (gE : Goods p n E) (nr : ∀ t ∈ E, t.word ≠ "read") (a : Adj p N E f g) : AdjR p N E f g [] := by
  refine ⟨a.1, a.2.1, (fun x m => nomatch m), (rc_zero nr).symm, fun is s hs => ?_⟩
  rw [rns_act gE nr]
  have := a.2.2 s.row hs
  show p ∣ _ - (_ + sumF _ 0)
  rw [sumF, Int.add_zero]
  exact this
theorem gN_cons (a : Int) (l : List Int) (j : Nat) : gN (a :: l) (j + 1) = gN l j := rfl
theorem gN_app {a b : List Int} {j : Nat} : gN (a ++ b) j = if j < a.length then gN a j else gN b (j - a.length) := by
  unfold gN
  rw [List.getD_eq_getElem?_getD, List.getElem?_append]
  split
  · rw [List.getD_eq_getElem?_getD]
  · rw [List.getD_eq_getElem?_getD]
theorem AdjR.comp {p n : Int} {N : Nat} {D E : List Tr} {f g h cs ds : List Int} (gD : Goods p n D) (a : AdjR p N E f g cs) (b : AdjR p N D g h ds) : AdjR p N (D ++ E) f h (ds ++ cs) := by
  refine ⟨b.1, b.2.1, fun x m => ?_, ?_, fun is s hs => ?_⟩
  · rcases List.mem_append.mp m with m | m
    · exact b.2.2.1 x m
    · exact a.2.2.1 x m
  · rw [List.length_append, rc_append, ← a.2.2.2.1, ← b.2.2.2.1]
    omega
  rw [rns_append]
  have h1 := a.2.2.2.2 is (rns p is s D) ((rns_len gD).trans hs)
  have h2 := b.2.2.2.2 is s hs
  have tk : (rns p is s D).tk = s.tk + ds.length := by
    have := rns_tk (is := is) (s := s) gD
    have := b.2.2.2.1
    omega
  rw [tk] at h1
  rw [List.length_append, sumF_add]
  have e1 : sumF (fun j => gN (ds ++ cs) j * gN is (s.tk + j)) ds.length = sumF (fun j => gN ds j * gN is (s.tk + j)) ds.length := sumF_cong fun j hj => by rw [gN_app, if_pos hj]
  have e2 : sumF (fun i => gN (ds ++ cs) (ds.length + i) * gN is (s.tk + (ds.length + i))) cs.length = sumF (fun j => gN cs j * gN is (s.tk + ds.length + j)) cs.length := sumF_cong fun j hj => by
    rw [gN_app, if_neg (by omega), show ds.length + j - ds.length = j by omega, Nat.add_assoc]
  rw [e1, e2]
  obtain ⟨u, hu⟩ := h1
  obtain ⟨v, hv⟩ := h2
  exact ⟨u + v, by grind⟩
theorem adjR_read {p n : Int} (p0 : 0 < p) {N : Nat} (hN : (N : Int) = n + 1) {x : Int} {f : List Int} (x0 : 0 ≤ x) (x1 : x < n) (hf : f.length = N) (iF : In p f) : AdjR p N [.op "read" [x]] f (plRow p "read" [x] f) [gt f (x + 1)] := by
  refine ⟨by rw [pl_read, sv_len, hf], by rw [pl_read]; exact in_sv iF (by omega) p0, fun y m => ?_, rfl, fun is s hs => ?_⟩
  · rw [List.mem_singleton.mp m]
    exact in_gt iF p0 _
  show p ∣ dot N (gN (stp p is s (.op "read" [x])).row) (gN f) - (_ + sumF _ 1)
  rw [stp_read, pl_read]
  show p ∣ dot N (gN (sv s.row (x + 1) (is.getD s.tk 0))) (gN f) - _
  rw [dot_svL _ (by omega) (by omega), dot_svR _ (by omega) (by omega), sumF, sumF]
  have e1 : gN [gt f (x + 1)] 0 = gt f (x + 1) := rfl
  have e2 : gN f (x + 1).toNat = gt f (x + 1) := rfl
  have e3 : gN is (s.tk + 0) = is.getD s.tk 0 := rfl
  rw [e1, e2, e3]
  exact ⟨0, by grind⟩
end Lj
set_option Elab.async false
set_option linter.all false
set_option maxRecDepth 100000
set_option maxHeartbeats 1000000
namespace Lj
open PySem PySem.Spec PyProof.Rows L2
theorem new_TL (l1 l2 : Addr) (xs ys : Array Value) : Meets (Builtin.«zip.__new__» ⟨[.type "zip", .ref l1, .ref l2], []⟩) (fun _ R s => s.heap.IsTuple l1 xs ∧ s.heap.IsList l2 ys ∧
      R (.ok (.ret (.ref (s.heap.objs.size + 4)))) { s with heap := zh s.heap (oTi l1) (oLi l2) s.heap.objs.size (s.heap.objs.size + 1) }) :=
  .of_wp fun prog w A R s h => by
    obtain ⟨hp, g, d, tk, os⟩ := s; obtain ⟨t1, t2, h⟩ := h
    have sub := sub_zip
    have T1 : Heap.IsTuple (Shared.heap ⟨hp, g, d, tk, os⟩) l1 xs := t1
    have T2 : Heap.IsList (Shared.heap ⟨hp.push { cls := .type "tuple_iterator", data := .fields #[.ref l1, .int 0 0] }, g, d, tk, os⟩) l2 ys := Heap.IsList.push t2 _
    wp_walk using wpAny_pyIter_tuple T1, wpAny_pyIter_list T2
    refine ⟨_, rfl, ?_⟩
    simp only [Heap.size_push]
    exact h
def iZipTL (K : PySem.W.Frag) (ta : TA) : TI := fun σ H R => ta σ H fun vs H1 => ∃ (a b : Addr) (xs ys : List V), vs = [.ref a, .ref b] ∧ SqT K H1 a xs ∧ SqL K H1 b ys ∧ R (ItF (min xs.length ys.length) (fun H => SqT K H a xs ∧ SqL K H b ys) xs ys) H1
/-- zip(tuple, list) -/
theorem pi_zipTL {X : Cx} {e e2 : Expr} {ta : TA} {p pos tpos : Pos} {elts : List Expr} {kk : Nat} (hg : Gl X "zip") (hm : X.mg "zip" = none) (ha : PA X [e, e2] ta)
    (hs : starEach [e, e2] X.env = (false, eval e X.env) :: starEach [e2] X.env := by rfl) (hpl : (backTo pos (starEach [e2] X.env)).any (·.1) = false := by rfl) :
    PI X (.Tuple elts kk tpos) (.Call (.Name "zip" p) [e, e2] [] pos) (iZipTL X.K ta) := by
  refine ⟨fun pins s σ H R I h => Call_ (ld_blt I hg hm PyProof.Rows.boot_zip (PyProof.Rows.callWith_type1 (thn (ha.run pos pins s σ H _ I h) fun us s1 ⟨vs, H1, I1, r1, a, b, xs, ys, ex, g1, g2, q⟩ => ?_) hs hpl))⟩
  subst ex
  obtain ⟨u1, u2, rfl, ra, rb⟩ := r1.two
  cases ra
  cases rb
  obtain ⟨its, rv, p1, _⟩ := I1.tuple g1
  obtain ⟨its2, rv2, p2, _⟩ := I1.list g2
  have al : a < s1.heap.objs.size := (by obtain ⟨o, ho, _⟩ := p1; exact Heap.lt_size ho)
  have bl : b < s1.heap.objs.size := p2.lt
  refine callType_new F.called_zip (by decide) (F.typeCall_zip_2 _ _) (F.newCall_zip_2 _ _) (fun obj => F.args_object_init_3 obj _ _) F.entry_zip_new (new_TL a b its.toArray its2.toArray) ⟨p1, p2.isList, ?_⟩
  obtain ⟨f1, f2, f3, f4, f5⟩ := zh_sz s1.heap (oTi a) (oLi b)
  have keep : ∀ c o, s1.heap.get? c = some o → (zh s1.heap (oTi a) (oLi b) s1.heap.objs.size (s1.heap.objs.size + 1)).get? c = some o := fun c o e => Heap.get?_push_of_some _ (Heap.get?_push_of_some _ (Heap.get?_push_of_some _ (Heap.get?_push_of_some _ (Heap.get?_push_of_some _ e))))
  refine ⟨⟨_, f5, rfl⟩, wpAny_pyIter_zip f5 ?_⟩
  have I2 : Inv X pins σ H1 { s1 with heap := zh s1.heap (oTi a) (oLi b) s1.heap.objs.size (s1.heap.objs.size + 1) } := I1.kept (t' := s1.toks) keep
  have ap : ∀ {l : Addr}, l < s1.heap.objs.size → l ≠ s1.heap.objs.size + 4 ∧ l ≠ s1.heap.objs.size + 3 ∧ l ≠ s1.heap.objs.size ∧ l ≠ s1.heap.objs.size + 1 := fun {l} h =>
    ⟨Nat.ne_of_lt (Nat.lt_add_right _ h), Nat.ne_of_lt (Nat.lt_add_right _ h), Nat.ne_of_lt h, Nat.ne_of_lt (Nat.lt_add_right _ h)⟩
  refine ⟨s1.heap.objs.size + 4, [s1.heap.objs.size + 4, s1.heap.objs.size + 2, s1.heap.objs.size + 3, s1.heap.objs.size, s1.heap.objs.size + 1], _, _, H1, rfl, I2, turn_F (five_new s1.heap.objs.size) (sr_tup (a := a) (xs := xs)) (sr_list (a := b) (xs := ys)) (fun l m => by rw [List.mem_singleton.mp m]; exact ap al) (fun l m => by rw [List.mem_singleton.mp m]; exact ap bl), ⟨f5, f3, ⟨_, _, f4⟩, ⟨_, f1, rfl, rfl⟩, ⟨_, f2, rfl, rfl⟩⟩, fun c hcm => ?_, q⟩
  have le : s1.heap.objs.size ≤ c := by
    simp only [List.mem_cons, List.not_mem_nil, or_false] at hcm
    rcases hcm with rfl | rfl | rfl | rfl | rfl
    · exact Nat.le_add_right _ _
    · exact Nat.le_add_right _ _
    · exact Nat.le_add_right _ _
    · exact Nat.le_refl _
    · exact Nat.le_add_right _ _
  exact I1.fpOk le (I1.hok.fresh le)
end Lj
set_option Elab.async false
set_option linter.all false
set_option maxRecDepth 100000
namespace Lj
open PySem PySem.Spec PyProof.Rows L2
/-! ### stretches of a list -/
def sl {α : Type} (E : List α) (a b : Nat) : List α := (E.drop a).take (b - a)
section
variable {α : Type} {A B E : List α} {a b c : Nat}
theorem sl_app : sl (A ++ B) a b = sl A a b ++ sl B (a - A.length) (b - A.length) := by
  unfold sl
  rw [List.drop_append, List.take_append, List.length_drop]
  congr 2
  omega
theorem sl_none (h : b ≤ a) : sl E a b = [] := by
  unfold sl
  rw [show b - a = 0 by omega, List.take_zero]
theorem sl_past (h : E.length ≤ a) : sl E a b = [] := by
  unfold sl
  rw [List.drop_eq_nil_of_le h, List.take_nil]
theorem sl_cut (h : a ≤ c) (h2 : c ≤ b) : sl E a b = sl E a c ++ sl E c b := by
  unfold sl
  rw [show b - a = (c - a) + (b - c) by omega, List.take_add, List.drop_drop, show a + (c - a) = c by omega]
theorem sl_all : sl E 0 E.length = E := by
  unfold sl
  rw [List.drop_zero, Nat.sub_zero, List.take_length]
theorem sl_len : (sl E a b).length = min (b - a) (E.length - a) := by
  unfold sl
  rw [List.length_take, List.length_drop]
end
theorem rp_sl2 {t r k : Nat} {E : List Tr} (h : t + r ≤ k) : sl (rp k E) (t * E.length) ((t + r) * E.length) = rp r E := by
  have lA : (rp t E).length = t * E.length := rp_len t E
  have lB : (rp r E).length = r * E.length := rp_len r E
  obtain ⟨j, rfl⟩ : ∃ j, k = t + (r + j) := ⟨k - t - r, by omega⟩
  rw [rp_add, rp_add, sl_app, lA, sl_app, lB, Nat.add_mul]
  generalize t * E.length = m at *
  generalize r * E.length = q at *
  rw [sl_past (by omega), List.nil_append, sl_none (E := rp j E) (by omega), List.append_nil, show m - m = 0 by omega, show m + q - m = q by omega, ← lB]
  exact sl_all
/-! ### pieces -/
structure Pc where
  st : Nat
  x : Addr
  t : Tr
  r : Nat
def Pc.ex (c : Pc) : List Tr := match c.t with
  | .op w as => [.op w as]
  | .loop _ b => rp c.r (exs b)
def pex (L : List Pc) : List Tr := (L.map Pc.ex).flatten
theorem pex_append (L M : List Pc) : pex (L ++ M) = pex L ++ pex M := by rw [pex, List.map_append, List.flatten_append]; rfl
theorem pex_one (c : Pc) : pex [c] = c.ex := by show ([c.ex] : List (List Tr)).flatten = _; rw [List.flatten_cons, List.flatten_nil, List.append_nil]
/-- it reads or writes -/
def loud (b : List Tr) : Bool := decide (0 < cnts "read" b + cnts "write" b)
def Pc.ok (c : Pc) : Prop := match c.t with
  | .op _ _ => c.r = 1
  | .loop k b => loud b = false ∧ 1 ≤ c.r ∧ (c.r : Int) ≤ k ∧ exs b ≠ []
def Pos : Nat → List Pc → Prop
  | _, [] => True
  | o, c :: r => c.st = o ∧ Pos (o + c.ex.length) r
theorem Pos.append : ∀ {L M : List Pc} {o : Nat}, Pos o L → Pos (o + (pex L).length) M → Pos o (L ++ M)
  | [], _, _, _, h => h
  | c :: L, M, o, h1, h2 => by
    refine ⟨h1.1, Pos.append h1.2 ?_⟩
    have : (pex (c :: L)).length = c.ex.length + (pex L).length := by
      show ((c.ex :: L.map Pc.ex).flatten).length = _
      rw [List.flatten_cons, List.length_append]
      rfl
    rw [this] at h2
    rwa [Nat.add_assoc]
theorem Pos.one (c : Pc) : Pos c.st [c] := ⟨rfl, trivial⟩
mutual
/-- at most so many pieces -/
def Tr.pcB : Tr → Nat
  | .op _ _ => 1
  | .loop k b => if loud b = true then k.toNat * pcBs b else 2 * pcBs b + 1
def pcBs : List Tr → Nat
  | [] => 0
  | t :: r => t.pcB + pcBs r
end
/-- what gather has found of a program from s to e -/
structure Found (o s e : Nat) (E : List Tr) (n : Nat) (L : List Pc) : Prop where
  ex : pex L = sl E s e
  ok : ∀ c ∈ L, c.ok
  pos : Pos (o + s) L
  few : L.length ≤ n
theorem Found.zero (o s e : Nat) : Found o s e [] 0 [] := ⟨by rw [sl_past (Nat.zero_le _)]; rfl, (fun c m => nomatch m), trivial, Nat.le_refl _⟩
/-- one part more -/
theorem Found.next {o s e a c : Nat} {E F : List Tr} {L M : List Pc} (h : Found o s e E a L) (k : Found (o + E.length) (s - E.length) (e - E.length) F c M) : Found o s e (E ++ F) (a + c) (L ++ M) := by
  refine ⟨by rw [pex_append, sl_app, h.ex, k.ex], fun d m => (List.mem_append.mp m).elim (h.ok d) (k.ok d), ?_, by rw [List.length_append]; have := h.few; have := k.few; omega⟩
  by_cases z : M = []
  · subst z
    rw [List.append_nil]
    exact h.pos
  refine h.pos.append ?_
  have l := h.ex
  have ll : (pex L).length = min (e - s) (E.length - s) := by rw [l, sl_len]
  have se : s - E.length < e - E.length := by
    rcases Nat.lt_or_ge (s - E.length) (e - E.length) with q | q
    · exact q
    · exfalso
      have e0 : pex M = [] := by rw [k.ex, sl_none q]
      cases M with
      | nil => exact z rfl
      | cons c M =>
        have m := k.ok c List.mem_cons_self
        have e1 : c.ex = [] := by
          have : c.ex ++ pex M = [] := e0
          exact (List.append_eq_nil_iff.mp this).1
        unfold Pc.ok at m
        unfold Pc.ex at e1
        split at m
        · rename_i w as he
          rw [he] at e1
          cases e1
        · rename_i kk b he
          rw [he] at e1
          obtain ⟨_, m1, _, m2⟩ := m
          have l2 : (rp c.r (exs b)).length = 0 := by
            have : rp c.r (exs b) = [] := e1
            rw [this]
            rfl
          rw [rp_len] at l2
          rcases Nat.mul_eq_zero.mp l2 with l2 | l2
          · omega
          · exact m2 (List.length_eq_zero_iff.mp l2)
  have q := k.pos
  rw [ll]
  have : o + s + min (e - s) (E.length - s) = o + E.length + (s - E.length) := by omega
  rw [this]
  exact q
theorem Found.le {o s e c d : Nat} {F : List Tr} {M : List Pc} (h : Found o s e F c M) (l : c ≤ d) : Found o s e F d M := ⟨h.ex, h.ok, h.pos, Nat.le_trans h.few l⟩
theorem Found.op {o x : Nat} {a : Addr} {w : Str} {as : List Int} : Found o 0 1 [.op w as] 1 [⟨o, a, .op w as, 1⟩] := ⟨rfl, fun c m => by rw [List.mem_singleton.mp m]; rfl, ⟨rfl, trivial⟩, Nat.le_refl _⟩
theorem Found.whole {o k t r low high c : Nat} {E b : List Tr} {L : List Pc} {a : Addr} {kk : Int} (hb : exs b = E) (hk : k = kk.toNat) (ht : t + r ≤ k) (r1 : 1 ≤ r) (hh : (t + r) * E.length ≤ high) (q : low ≤ t * E.length) (h : Found o low (min (t * E.length) high) (rp k E) c L)
    (lo : loud b = false) (ne : exs b ≠ []) : Found o low (min ((t + r) * E.length) high) (rp k E) (c + 1) (L ++ [⟨o + t * E.length, a, .loop kk b, r⟩]) := by
  have e1 := rp_sl2 (t := t) (r := r) (k := k) (E := E) ht
  have sm : (t + r) * E.length = t * E.length + r * E.length := Nat.add_mul _ _ _
  have kl : (t + r) * E.length ≤ k * E.length := Nat.mul_le_mul_right _ ht
  rw [sm] at hh e1 kl ⊢
  clear sm
  generalize t * E.length = m at *
  have e0 : min m high = m := Nat.min_eq_left (by omega)
  have e2 : min (m + r * E.length) high = m + r * E.length := Nat.min_eq_left hh
  have cx : (⟨o + m, a, .loop kk b, r⟩ : Pc).ex = rp r E := by
    show rp r (exs b) = _
    rw [hb]
  refine ⟨?_, fun x mx => (List.mem_append.mp mx).elim (h.ok x) fun mx => ?_, ?_, ?_⟩
  · rw [pex_append, pex_one, cx, h.ex, e0, e2, sl_cut q (show m ≤ m + r * E.length by omega), e1]
  · rw [List.mem_singleton.mp mx]
    exact ⟨lo, r1, by show (r : Int) ≤ kk; omega, ne⟩
  · refine h.pos.append ?_
    have ll : (pex L).length = m - low := by
      rw [h.ex, sl_len, e0, rp_len]
      omega
    rw [ll, show o + low + (m - low) = o + m by omega]
    exact ⟨rfl, trivial⟩
  · rw [List.length_append]
    have := h.few
    show L.length + 1 ≤ _
    omega
end Lj
set_option Elab.async false
set_option linter.all false
set_option maxRecDepth 100000
set_option pp.maxSteps 500
set_option pp.deepTerms.threshold 8
set_option pp.deepTerms false
namespace Lj
open PySem PySem.Spec PyProof.Rows L2
/-! ### what a part and a track hold -/
def pf (p n : Int) (v : V) (st : Int) (b : V) (q : Addr) (w : V) : List (Str × V) := [("p", .int p), ("n", .int n), ("instruction", v), ("steps", .int st), ("body", b), ("squares", .ref q), ("whole", w)]
def tf (p n : Int) (l : Addr) (st rd : Int) (lo : Bool) : List (Str × V) := [("p", .int p), ("n", .int n), ("parts", .ref l), ("steps", .int st), ("reads", .int rd), ("loud", .bl lo)]
section
variable (p n : Int) (v : V) (st : Int) (b : V) (q : Addr) (w : V) (l : Addr) (rd : Int) (lo : Bool)
theorem pf_p : (pf p n v st b q w).lookup ("p" : Str) = some (.int p) := rfl
theorem pf_ins : (pf p n v st b q w).lookup ("instruction" : Str) = some v := rfl
theorem pf_steps : (pf p n v st b q w).lookup ("steps" : Str) = some (.int st) := rfl
theorem pf_body : (pf p n v st b q w).lookup ("body" : Str) = some b := rfl
theorem tf_parts : (tf p n l st rd lo).lookup ("parts" : Str) = some (.ref l) := rfl
theorem tf_steps : (tf p n l st rd lo).lookup ("steps" : Str) = some (.int st) := rfl
end
structure PTxt (K : PySem.W.Frag) (mg : Str → Option Value) (C : Addr) : Prop where
  cl : Cls K C
  nP : NoAttr K C "p"
  nN : NoAttr K C "n"
  nI : NoAttr K C "instruction"
  nS : NoAttr K C "steps"
  nB : NoAttr K C "body"
  nQ : NoAttr K C "squares"
  nW : NoAttr K C "whole"
  mgC : mg "Part" = some (.ref C)
structure TTxt (K : PySem.W.Frag) (mg : Str → Option Value) (C : Addr) : Prop where
  cl : Cls K C
  nP : NoAttr K C "p"
  nN : NoAttr K C "n"
  nL : NoAttr K C "parts"
  nS : NoAttr K C "steps"
  nR : NoAttr K C "reads"
  nU : NoAttr K C "loud"
  mgC : mg "Track" = some (.ref C)
/-! ### the places that change: parts, and their lists of powers -/
inductive Cell where
  | part (dx : Addr) (v : V) (t : Tr) (b : V) (q : Addr)
  | sqs (b : List Tr)
  | loose
abbrev Gh := Addr → Option Cell
/-- the heap without them -/
def wg (G : Gh) (H : Hp) : Hp := fun a => match G a with
  | some _ => none
  | none => H a
theorem wg_on {G : Gh} {H : Hp} : Same (wg G H) H := fun a o h => by
  unfold wg at h
  split at h
  · cases h
  · exact h
theorem wg_at {G : Gh} {H : Hp} {a : Addr} (e : G a = none) : wg G H a = H a := by
  unfold wg
  rw [e]
theorem wg_same {G : Gh} {H H' : Hp} (s : Same H H') : Same (wg G H) (wg G H') := fun a o h => by
  unfold wg at h ⊢
  cases e : G a with
  | some c => rw [e] at h; cases h
  | none => rw [e] at h; exact s _ _ h
def RowAt (H : Hp) (r : List Int) (v : V) : Prop := ∃ a, v = .ref a ∧ H a = some (.lst (r.map V.int))
def RowsAt (H : Hp) : List (List Int) → List V → Prop
  | [], vs => vs = []
  | r :: R, vs => ∃ v us, vs = v :: us ∧ RowAt H r v ∧ RowsAt H R us
def MatAt (H : Hp) (M : List (List Int)) (v : V) : Prop := ∃ a vs, v = .ref a ∧ H a = some (.lst vs) ∧ RowsAt H M vs
theorem RowAt.same {H H' : Hp} (s : Same H H') {r : List Int} {v : V} (h : RowAt H r v) : RowAt H' r v := by
  obtain ⟨a, e, h⟩ := h
  exact ⟨a, e, s _ _ h⟩
theorem RowsAt.same {H H' : Hp} (s : Same H H') : ∀ {R : List (List Int)} {vs : List V}, RowsAt H R vs → RowsAt H' R vs
  | [], _, h => h
  | _ :: _, _, ⟨v, us, e, h, t⟩ => ⟨v, us, e, h.same s, RowsAt.same s t⟩
theorem RowsAt.length {H : Hp} : ∀ {R : List (List Int)} {vs : List V}, RowsAt H R vs → vs.length = R.length
  | [], _, h => by rw [show _ = _ from h]; rfl
  | _ :: _, _, ⟨v, us, e, _, t⟩ => by rw [e, List.length_cons, List.length_cons, RowsAt.length t]
theorem RowsAt.get {H : Hp} : ∀ {R : List (List Int)} {vs : List V} {i : Nat} {v : V}, RowsAt H R vs → vs[i]? = some v → ∃ r, R[i]? = some r ∧ RowAt H r v
  | [], _, i, _, h, e => by rw [show _ = _ from h] at e; simp at e
  | r :: R, _, 0, _, ⟨v, us, e, h, t⟩, x => by subst e; cases x; exact ⟨r, rfl, h⟩
  | r :: R, _, i + 1, _, ⟨v, us, e, h, t⟩, x => by subst e; exact RowsAt.get (i := i) t x
theorem RowsAt.snoc {H : Hp} {r : List Int} {v : V} (a : RowAt H r v) : ∀ {R : List (List Int)} {vs : List V}, RowsAt H R vs → RowsAt H (R ++ [r]) (vs ++ [v])
  | [], _, h => by rw [show _ = _ from h]; exact ⟨v, [], rfl, a, rfl⟩
  | _ :: _, _, ⟨u, us, e, h, t⟩ => ⟨u, us ++ [v], by rw [e]; rfl, h, RowsAt.snoc a t⟩
theorem MatAt.same {H H' : Hp} (s : Same H H') {M : List (List Int)} {v : V} (h : MatAt H M v) : MatAt H' M v := by
  obtain ⟨a, vs, e, h, r⟩ := h
  exact ⟨a, vs, e, s _ _ h, r.same s⟩
def bod : Tr → List Tr
  | .op _ _ => []
  | .loop _ b => b
def rds : Tr → Nat
  | .op _ _ => 1
  | .loop k _ => k.toNat
/-- a list or an object -/
def Loo (o : HO) : Prop := (∃ xs, o = .lst xs) ∨ (∃ C dx fs, o = .ins C dx fs) ∨ ∃ kvs, o = .dK kvs
theorem Loo.ins {C dx : Addr} {fs : List (Str × V)} : Loo (.ins C dx fs) := .inr (.inl ⟨_, _, _, rfl⟩)
theorem Loo.dK {kvs : List (Key × V)} : Loo (.dK kvs) := .inr (.inr ⟨_, rfl⟩)
def CellOk (C : Addr) (p n : Int) (N : Nat) (G : Gh) (H : Hp) (a : Addr) : Cell → Prop
  | .part dx v t b q => ∃ w, H a = some (.ins C dx (pf p n v t.len b q w)) ∧ G q = some (.sqs (bod t)) ∧ (w = .non ∨ MatAt (wg G H) (mat p N (rp (rds t) (exs (bod t)))) w)
  | .sqs b => ∃ ms, H a = some (.lst ms) ∧ ms.length ≤ 200 ∧ ∀ i m, ms[i]? = some m → MatAt (wg G H) (mat p N (rp (2 ^ i) (exs b))) m
  | .loose => ∃ o, H a = some o ∧ Loo o
def InvG (C : Addr) (p n : Int) (N : Nat) (G : Gh) (H : Hp) : Prop := ∀ a c, G a = some c → CellOk C p n N G H a c
theorem CellOk.same {C : Addr} {p n : Int} {N : Nat} {G : Gh} {H H' : Hp} {a : Addr} (s : Same H H') : ∀ {c : Cell}, CellOk C p n N G H a c → CellOk C p n N G H' a c
  | .part _ _ _ _ _, ⟨w, h, g, m⟩ => ⟨w, s _ _ h, g, m.imp id fun m => m.same (wg_same s)⟩
  | .sqs _, ⟨ms, h, l, m⟩ => ⟨ms, s _ _ h, l, fun i x e => (m i x e).same (wg_same s)⟩
  | .loose, ⟨o, h, l⟩ => ⟨o, s _ _ h, l⟩
theorem InvG.same {C : Addr} {p n : Int} {N : Nat} {G : Gh} {H H' : Hp} (s : Same H H') (h : InvG C p n N G H) : InvG C p n N G H' := fun a c e => (h a c e).same s
theorem InvG.held {C : Addr} {p n : Int} {N : Nat} {G : Gh} {H : Hp} (h : InvG C p n N G H) {a : Addr} (e : H a = none) : G a = none := by
  cases g : G a with
  | none => rfl
  | some c =>
    have k := h a c g
    cases c with
    | part dx v t b q =>
      obtain ⟨w, k, _⟩ := k
      rw [e] at k
      cases k
    | sqs b =>
      obtain ⟨w, k, _⟩ := k
      rw [e] at k
      cases k
    | loose =>
      obtain ⟨w, k, _⟩ := k
      rw [e] at k
      cases k
/-! ### parts and tracks over a program -/
mutual
def PtAt (K : PySem.W.Frag) (CT : Addr) (p n : Int) (G : Gh) (H : Hp) : Tr → V → Prop
  | .op w as, x => ∃ a dx v q, x = .ref a ∧ G a = some (.part dx v (.op w as) .non q) ∧ TrAt K H (.op w as) v
  | .loop k b, x => ∃ a dx v q tb dt l vs, x = .ref a ∧ G a = some (.part dx v (.loop k b) (.ref tb) q) ∧ TrAt K H (.loop k b) v ∧ H tb = some (.ins CT dt (tf p n l (lens b) (cnts "read" b) (loud b))) ∧ H l = some (.lst vs) ∧ PtsAt K CT p n G H b vs
def PtsAt (K : PySem.W.Frag) (CT : Addr) (p n : Int) (G : Gh) (H : Hp) : List Tr → List V → Prop
  | [], vs => vs = []
  | t :: r, vs => ∃ v us, vs = v :: us ∧ PtAt K CT p n G H t v ∧ PtsAt K CT p n G H r us
end
def TkAt (K : PySem.W.Frag) (CT : Addr) (p n : Int) (G : Gh) (H : Hp) (b : List Tr) (x : V) : Prop := ∃ tb dt l vs, x = .ref tb ∧ H tb = some (.ins CT dt (tf p n l (lens b) (cnts "read" b) (loud b))) ∧ H l = some (.lst vs) ∧ PtsAt K CT p n G H b vs
section
variable {K : PySem.W.Frag} {CT : Addr} {p n : Int} {G G' : Gh} {H H' : Hp}
mutual
theorem PtAt.mono (g : ∀ a c, G a = some c → G' a = some c) (s : Same H H') : ∀ (t : Tr) (x : V), PtAt K CT p n G H t x → PtAt K CT p n G' H' t x
  | .op w as, x, h => by
    rw [PtAt] at h ⊢
    obtain ⟨a, dx, v, q, e, h, t⟩ := h
    exact ⟨a, dx, v, q, e, g _ _ h, TrAt.kt (Kt.same s) _ _ t⟩
  | .loop k b, x, h => by
    rw [PtAt] at h ⊢
    obtain ⟨a, dx, v, q, tb, dt, l, vs, e, h, t, h2, h3, h4⟩ := h
    exact ⟨a, dx, v, q, tb, dt, l, vs, e, g _ _ h, TrAt.kt (Kt.same s) _ _ t, s _ _ h2, s _ _ h3, PtsAt.mono g s b vs h4⟩
theorem PtsAt.mono (g : ∀ a c, G a = some c → G' a = some c) (s : Same H H') : ∀ (b : List Tr) (vs : List V), PtsAt K CT p n G H b vs → PtsAt K CT p n G' H' b vs
  | [], vs, h => by
    rw [PtsAt] at h ⊢
    exact h
  | t :: r, vs, h => by
    rw [PtsAt] at h ⊢
    obtain ⟨v, us, e, h, hs⟩ := h
    exact ⟨v, us, e, PtAt.mono g s t v h, PtsAt.mono g s r us hs⟩
end
theorem PtsAt.length : ∀ {b : List Tr} {vs : List V}, PtsAt K CT p n G H b vs → vs.length = b.length
  | [], _, h => by
    rw [PtsAt] at h
    rw [h]
    rfl
  | t :: r, _, h => by
    rw [PtsAt] at h
    obtain ⟨v, us, rfl, _, hs⟩ := h
    rw [List.length_cons, List.length_cons, PtsAt.length hs]
theorem PtsAt.get : ∀ {b : List Tr} {vs : List V} {i : Nat} {v : V}, PtsAt K CT p n G H b vs → vs[i]? = some v → ∃ t, b[i]? = some t ∧ PtAt K CT p n G H t v
  | [], _, i, _, h, e => by
    rw [PtsAt] at h
    rw [h] at e
    simp at e
  | t :: r, _, 0, _, h, e => by
    rw [PtsAt] at h
    obtain ⟨v, us, rfl, h1, hs⟩ := h
    cases e
    exact ⟨t, rfl, h1⟩
  | t :: r, _, i + 1, _, h, e => by
    rw [PtsAt] at h
    obtain ⟨v, us, rfl, h1, hs⟩ := h
    exact PtsAt.get (i := i) hs e
theorem PtsAt.nil : PtsAt K CT p n G H [] [] := by rw [PtsAt]
theorem PtsAt.snoc {t : Tr} {v : V} (a : PtAt K CT p n G H t v) : ∀ {b : List Tr} {vs : List V}, PtsAt K CT p n G H b vs → PtsAt K CT p n G H (b ++ [t]) (vs ++ [v])
  | [], _, h => by
    rw [PtsAt] at h
    rw [h, List.nil_append, List.nil_append, PtsAt]
    exact ⟨v, [], rfl, a, PtsAt.nil⟩
  | u :: r, _, h => by
    rw [PtsAt] at h
    obtain ⟨x, us, rfl, h1, hs⟩ := h
    rw [List.cons_append, List.cons_append, PtsAt]
    exact ⟨x, _, rfl, h1, PtsAt.snoc a hs⟩
end
/-- the part itself -/
theorem PtAt.obj {K : PySem.W.Frag} {CT C : Addr} {p n : Int} {N : Nat} {G : Gh} {H : Hp} {t : Tr} {x : V} (I : InvG C p n N G H) (h : PtAt K CT p n G (wg G H) t x) : ∃ a dx v b q w, x = .ref a ∧ H a = some (.ins C dx (pf p n v t.len b q w)) ∧ TrAt K (wg G H) t v ∧ (b = .non ↔ ∃ z as, t = .op z as) := by
  cases t with
  | op z as =>
    rw [PtAt] at h
    obtain ⟨a, dx, v, q, e, h, tr⟩ := h
    obtain ⟨w, hh, _⟩ := I _ _ h
    exact ⟨a, dx, v, _, q, w, e, hh, tr, fun _ => ⟨_, _, rfl⟩, fun _ => rfl⟩
  | loop k b =>
    rw [PtAt] at h
    obtain ⟨a, dx, v, q, tb, dt, l, vs, e, h, tr, _⟩ := h
    obtain ⟨w, hh, _⟩ := I _ _ h
    exact ⟨a, dx, v, _, q, w, e, hh, tr, fun e => (nomatch e), fun ⟨_, _, e⟩ => (nomatch e)⟩
/-! ### pieces in the heap -/
def PcAt (K : PySem.W.Frag) (CT : Addr) (p n : Int) (G : Gh) (H0 H : Hp) (c : Pc) (v : V) : Prop := ∃ a, v = .ref a ∧ SqT K H a [.int (c.st : Int), .ref c.x, .int (c.r : Int)] ∧ PtAt K CT p n G (wg G H0) c.t (.ref c.x)
def PcsAt (K : PySem.W.Frag) (CT : Addr) (p n : Int) (G : Gh) (H0 H : Hp) : List Pc → List V → Prop
  | [], vs => vs = []
  | c :: L, vs => ∃ v us, vs = v :: us ∧ PcAt K CT p n G H0 H c v ∧ PcsAt K CT p n G H0 H L us
section
variable {K : PySem.W.Frag} {CT : Addr} {p n : Int} {G : Gh} {H0 H H' : Hp}
theorem PcsAt.kt (k : Kt H H') : ∀ {L : List Pc} {vs : List V}, PcsAt K CT p n G H0 H L vs → PcsAt K CT p n G H0 H' L vs
  | [], _, h => h
  | _ :: _, _, ⟨v, us, e, ⟨a, e2, h1, h2⟩, t⟩ => ⟨v, us, e, ⟨a, e2, k.sq h1, h2⟩, PcsAt.kt k t⟩
theorem PcsAt.append : ∀ {L M : List Pc} {vs us : List V}, PcsAt K CT p n G H0 H L vs → PcsAt K CT p n G H0 H M us → PcsAt K CT p n G H0 H (L ++ M) (vs ++ us)
  | [], _, _, _, h, k => by rw [show _ = _ from h]; exact k
  | _ :: _, _, _, _, ⟨v, us, e, h, t⟩, k => ⟨v, us ++ _, by rw [e]; rfl, h, PcsAt.append t k⟩
theorem PcsAt.length : ∀ {L : List Pc} {vs : List V}, PcsAt K CT p n G H0 H L vs → vs.length = L.length
  | [], _, h => by rw [show _ = _ from h]; rfl
  | _ :: _, _, ⟨v, us, e, _, t⟩ => by rw [e, List.length_cons, List.length_cons, PcsAt.length t]
theorem PcsAt.get : ∀ {L : List Pc} {vs : List V} {i : Nat} {v : V}, PcsAt K CT p n G H0 H L vs → vs[i]? = some v → ∃ c, L[i]? = some c ∧ PcAt K CT p n G H0 H c v
  | [], _, i, _, h, e => by rw [show _ = _ from h] at e; simp at e
  | c :: L, _, 0, _, ⟨v, us, e, h, t⟩, x => by subst e; cases x; exact ⟨c, rfl, h⟩
  | c :: L, _, i + 1, _, ⟨v, us, e, h, t⟩, x => by subst e; exact PcsAt.get (i := i) t x
end
/-! ### promises -/
/-- none of them is deeper, or has more pieces -/
def Few (d B : Nat) (L : List Pc) : Prop := ∀ c ∈ L, okB d [c.t] ∧ c.t.pcB ≤ B
theorem Few.append {d B : Nat} {L M : List Pc} (a : Few d B L) (b : Few d B M) : Few d B (L ++ M) := fun c m => (List.mem_append.mp m).elim (a c) (b c)
theorem Few.le {d B C : Nat} {L : List Pc} (a : Few d B L) (h : B ≤ C) : Few d C L := fun c m => ⟨(a c m).1, Nat.le_trans (a c m).2 h⟩
end Lj
set_option Elab.async false
set_option linter.all false
set_option maxRecDepth 100000
set_option pp.maxSteps 500
set_option pp.deepTerms.threshold 8
set_option pp.deepTerms false
namespace Lj
open PySem PySem.Spec PyProof.Rows L2
/-! ### what is new in a heap -/
def nw (H H' : Hp) : Hp := fun a => match H a with
  | some _ => none
  | none => H' a
theorem nw_on {H H' : Hp} : Same (nw H H') H' := fun a o h => by
  unfold nw at h
  split at h
  · cases h
  · exact h
theorem nw_at {H H' : Hp} {a : Addr} (e : H a = none) : nw H H' a = H' a := by
  unfold nw
  rw [e]
theorem nw_back {H0 H H' : Hp} (s : Same H0 H) : Same (nw H H') (nw H0 H') := fun a o h => by
  unfold nw at h ⊢
  cases e : H a with
  | some c => rw [e] at h; cases h
  | none =>
    rw [e] at h
    rw [s.free e]
    exact h
/-! ### promises of unit, units, product -/
def spUnit : Sp := fun vs H Q _ => ∃ (N j : Nat), vs = [.int (N : Int), .int (j : Int)] ∧ j < N ∧ N ≤ 100 ∧ ∀ H' a, Same H H' → H a = none → H' a = some (.lst ((un N j).map V.int)) → Q (.ref a) H'
def spUnits : Sp := fun vs H Q _ => ∃ (n N : Nat), vs = [.int (n : Int)] ∧ N = n + 1 ∧ N ≤ 100 ∧ ∀ H' v, Same H H' → MatAt (nw H H') ((List.range N).map (un N)) v → Q v H'
end Lj
set_option Elab.async false
set_option linter.all false
set_option maxRecDepth 100000
set_option pp.maxSteps 500
set_option pp.deepTerms.threshold 8
set_option pp.deepTerms false
namespace Lj
open PySem PySem.Spec PyProof.Rows L2
/-! ### tracks and parts on their way -/
structure Wd (CP : Addr) (p n : Int) (N : Nat) (G : Gh) (H : Hp) : Prop where
  p0 : 2 ≤ p
  p1 : p ≤ 10007
  hN : (N : Int) = n + 1
  N0 : 0 < N
  N1 : N ≤ 100
  inv : InvG CP p n N G H
/-- parts of this rank alone are changed -/
def csz : Cell → Nat
  | .part _ _ t _ _ => t.pcB
  | .sqs b => 2 * pcBs b + 1
  | .loose => 0
structure Ev (CP : Addr) (p n : Int) (N : Nat) (G : Gh) (m : Nat) (H H' : Hp) : Prop where
  sm : Same (wg G H) (wg G H')
  inv : InvG CP p n N G H'
  lo : ∀ a, G a = some .loose → H' a = H a
  fr : ∀ a c, G a = some c → m < csz c → H' a = H a
section
variable {K : PySem.W.Frag} {CT CP : Addr} {p n : Int} {N : Nat} {G : Gh} {H H' H2 : Hp}
theorem Ev.refl {m : Nat} (I : InvG CP p n N G H) : Ev CP p n N G m H H := ⟨Same.refl _, I, fun _ _ => rfl, fun _ _ _ _ => rfl⟩
theorem Ev.trans {m : Nat} (a : Ev CP p n N G m H H') (b : Ev CP p n N G m H' H2) : Ev CP p n N G m H H2 := ⟨a.sm.trans b.sm, b.inv, fun x e => (b.lo x e).trans (a.lo x e), fun x c e l => (b.fr x c e l).trans (a.fr x c e l)⟩
theorem Ev.le {m m' : Nat} (a : Ev CP p n N G m H H') (h : m ≤ m') : Ev CP p n N G m' H H' := ⟨a.sm, a.inv, a.lo, fun x c e l => a.fr x c e (by omega)⟩
theorem InvG.at_ (I : InvG CP p n N G H) (s : Same H H') {a : Addr} {c : Cell} (e : G a = some c) : H' a = H a := by
  have k := I _ _ e
  cases c with
  | part dx v t b q =>
    obtain ⟨w, k, _⟩ := k
    rw [k, s _ _ k]
  | sqs b =>
    obtain ⟨ms, k, _⟩ := k
    rw [k, s _ _ k]
  | loose =>
    obtain ⟨ms, k, _⟩ := k
    rw [k, s _ _ k]
theorem Ev.of {m : Nat} (I : InvG CP p n N G H) (s : Same H H') : Ev CP p n N G m H H' := ⟨wg_same s, I.same s, fun x e => I.at_ s e, fun x c e _ => I.at_ s e⟩
theorem Ev.next {m : Nat} (a : Ev CP p n N G m H H') (s : Same H' H2) : Ev CP p n N G m H H2 := a.trans (.of a.inv s)
theorem Ev.free {m : Nat} {a : Addr} (e : Ev CP p n N G m H H') (h : H' a = none) : H a = none := by
  have g := e.inv.held h
  cases k : H a with
  | none => rfl
  | some o =>
    have := wg_on _ _ (e.sm a o (by rw [wg_at g]; exact k))
    rw [h] at this
    cases this
theorem Wd.ev {m : Nat} (a : Wd CP p n N G H) (e : Ev CP p n N G m H H') : Wd CP p n N G H' := ⟨a.p0, a.p1, a.hN, a.N0, a.N1, e.inv⟩
/-! ### a list that is being made -/
def gl (G : Gh) (D : Addr) : Gh := fun a => if a = D then some .loose else G a
theorem gl_at {D : Addr} : gl G D D = some .loose := if_pos rfl
theorem gl_ne {D a : Addr} (h : a ≠ D) : gl G D a = G a := if_neg h
theorem gl_sub {D : Addr} (h : G D = none) : ∀ a c, G a = some c → gl G D a = some c := fun a c e => by
  rw [gl_ne (fun z => by rw [z, h] at e; cases e)]
  exact e
theorem wg_gl {D : Addr} : Same (wg (gl G D) H) (wg G H) := fun a o e => by
  unfold wg at e ⊢
  by_cases z : a = D
  · subst z
    rw [gl_at] at e
    cases e
  · rw [gl_ne z] at e
    exact e
/-- the heap at D is of no account -/
theorem wg_upd {D : Addr} {o : HO} : wg (gl G D) (upd H D o) = wg (gl G D) H := funext fun a => by
  unfold wg
  by_cases z : a = D
  · subst z
    rw [gl_at]
  · rw [gl_ne z, upd_ne z]
theorem wg_open {D : Addr} (h : H D = none) : Same (wg G H) (wg (gl G D) H) := fun a o e => by
  have z : a ≠ D := fun z => by
    have := wg_on _ _ e
    rw [z, h] at this
    cases this
  unfold wg at e ⊢
  rw [gl_ne z]
  exact e
theorem CellOk.glue {G2 : Gh} {H3 : Hp} {a : Addr} (hg : ∀ x b, G x = some (.sqs b) → G2 x = some (.sqs b)) (hw : Same (wg G H) (wg G2 H3)) (ha : H3 a = H a) : ∀ {c : Cell}, CellOk CP p n N G H a c → CellOk CP p n N G2 H3 a c
  | .part _ _ _ _ _, ⟨w, h, g, m⟩ => ⟨w, ha.trans h, hg _ _ g, m.imp id fun m => m.same hw⟩
  | .sqs _, ⟨ms, h, l, m⟩ => ⟨ms, ha.trans h, l, fun i x e => (m i x e).same hw⟩
  | .loose, ⟨o, h, l⟩ => ⟨o, ha.trans h, l⟩
/-- a new list is taken in -/
theorem InvG.open {D : Addr} {xs : List V} (I : InvG CP p n N G H) (h : H D = none) : InvG CP p n N (gl G D) (upd H D (.lst xs)) := fun a c e => by
  by_cases z : a = D
  · subst z
    rw [gl_at] at e
    cases e
    exact ⟨_, upd_same, .inl ⟨xs, rfl⟩⟩
  · rw [gl_ne z] at e
    refine CellOk.glue (fun x b e => gl_sub (I.held h) _ _ e) ?_ (upd_ne z) (I a c e)
    rw [wg_upd]
    exact wg_open h
/-- it is written -/
theorem InvG.put {D : Addr} {xs : List V} (I : InvG CP p n N (gl G D) H) : InvG CP p n N (gl G D) (upd H D (.lst xs)) := fun a c e => by
  by_cases z : a = D
  · subst z
    rw [gl_at] at e
    cases e
    exact ⟨_, upd_same, .inl ⟨xs, rfl⟩⟩
  · refine CellOk.glue (fun x b e => e) ?_ (upd_ne z) (I a c e)
    rw [wg_upd]
    exact Same.refl _
/-- and let go -/
theorem InvG.shut {D : Addr} (I : InvG CP p n N (gl G D) H) (h : G D = none) : InvG CP p n N G H := fun a c e => by
  refine CellOk.glue (G := gl G D) (fun x b e => ?_) wg_gl rfl (I a c (gl_sub h _ _ e))
  by_cases z : x = D
  · subst z
    rw [gl_at] at e
    cases e
  · rw [gl_ne z] at e
    exact e
theorem Ev.open {D : Addr} {xs : List V} (I : InvG CP p n N G H) (h : H D = none) : Same (wg G H) (wg (gl G D) (upd H D (.lst xs))) := by
  rw [wg_upd]
  exact wg_open h
theorem Ev.put {D : Addr} {xs : List V} (I : InvG CP p n N (gl G D) H) : Same (wg (gl G D) H) (wg (gl G D) (upd H D (.lst xs))) := by
  rw [wg_upd]
  exact Same.refl _
/-- from the beginning to the end -/
theorem Ev.shut {m : Nat} {D : Addr} (nD : H D = none) (gD : G D = none) (s : Same (wg G H) (wg (gl G D) H')) (I : InvG CP p n N (gl G D) H') (fr : ∀ a c, G a = some c → m < csz c ∨ c = .loose → H' a = H a) : Ev CP p n N G m H H' := ⟨s.trans wg_gl, I.shut gD, fun a e => fr a _ e (.inr rfl), fun a c e l => fr a c e (.inl l)⟩
/-- a list that is new, and let be -/
theorem InvG.fresh {D : Addr} {xs : List V} (I : InvG CP p n N G H) (h : H D = none) (s : Same H H') (h2 : H' D = some (.lst xs)) : InvG CP p n N (gl G D) H' := (I.open h (xs := xs)).same fun a o e => by
  by_cases z : a = D
  · subst z
    rw [upd_same] at e
    cases e
    exact h2
  · rw [upd_ne z] at e
    exact s _ _ e
structure LpAt (K : PySem.W.Frag) (CT : Addr) (p n : Int) (G : Gh) (Hw : Hp) (d : Nat) (kk : Int) (b : List Tr) (x : Addr) : Prop where
  pt : PtAt K CT p n G Hw (.loop kk b) (.ref x)
  ok : okB d [.loop kk b]
  gd : Goods p n (exs b)
  qt : loud b = false
  few : pcBs b ≤ 8000000
  wd : (exs b).length ≤ wide
theorem LpAt.same {Hw Hw' : Hp} {d : Nat} {kk : Int} {b : List Tr} {x : Addr} (s : Same Hw Hw') (h : LpAt K CT p n G Hw d kk b x) : LpAt K CT p n G Hw' d kk b x := ⟨PtAt.mono (fun _ _ e => e) s _ _ h.pt, h.ok, h.gd, h.qt, h.few, h.wd⟩
theorem LpAt.mono {G2 : Gh} {Hw Hw' : Hp} {d : Nat} {kk : Int} {b : List Tr} {x : Addr} (g : ∀ a c, G a = some c → G2 a = some c) (s : Same Hw Hw') (h : LpAt K CT p n G Hw d kk b x) : LpAt K CT p n G2 Hw' d kk b x := ⟨PtAt.mono g s _ _ h.pt, h.ok, h.gd, h.qt, h.few, h.wd⟩
theorem LpAt.obj {d : Nat} {kk : Int} {b : List Tr} {x : Addr} (I : InvG CP p n N G H) (h : LpAt K CT p n G (wg G H) d kk b x) : ∃ dx v q w tb dt l, G x = some (.part dx v (.loop kk b) (.ref tb) q) ∧ H x = some (.ins CP dx (pf p n v (Tr.len (.loop kk b)) (.ref tb) q w)) ∧ G q = some (.sqs b) ∧
    (w = .non ∨ MatAt (wg G H) (mat p N (rp kk.toNat (exs b))) w) ∧ TrAt K (wg G H) (.loop kk b) v ∧ TkAt K CT p n G (wg G H) b (.ref tb) ∧ H tb = some (.ins CT dt (tf p n l (lens b) (cnts "read" b) (loud b))) := by
  have h := h.pt
  rw [PtAt] at h
  obtain ⟨a, dx, v, q, tb, dt, l, vs, e, g, tr, h2, h3, h4⟩ := h
  cases e
  obtain ⟨w, hx, gq, hw⟩ := I _ _ g
  exact ⟨dx, v, q, w, tb, dt, l, g, hx, gq, hw, tr, ⟨tb, dt, l, vs, rfl, h2, h3, h4⟩, wg_on _ _ h2⟩
end
theorem wg_put {G : Gh} {H : Hp} {a : Addr} {c : Cell} {o : HO} (g : G a = some c) : wg G (upd H a o) = wg G H := funext fun b => by
  unfold wg
  by_cases z : b = a
  · subst z
    rw [g]
  · rw [upd_ne z]
/-- a list of powers is written -/
theorem InvG.sq {CP : Addr} {p n : Int} {N : Nat} {G : Gh} {H : Hp} (I : InvG CP p n N G H) {a : Addr} {b : List Tr} (g : G a = some (.sqs b)) {ms : List V} (l : ms.length ≤ 200) (h : ∀ i m, ms[i]? = some m → MatAt (wg G H) (mat p N (rp (2 ^ i) (exs b))) m) : InvG CP p n N G (upd H a (.lst ms)) := fun x c e => by
  by_cases z : x = a
  · subst z
    rw [g] at e
    cases e
    refine ⟨ms, upd_same, l, fun i m e => ?_⟩
    rw [wg_put g]
    exact h i m e
  · refine CellOk.glue (fun _ _ e => e) ?_ (upd_ne z) (I x c e)
    rw [wg_put g]
    exact Same.refl _
/-- the whole loop's matrix is kept -/
theorem InvG.whole {CP : Addr} {p n : Int} {N : Nat} {G : Gh} {H : Hp} (I : InvG CP p n N G H) {a dx q : Addr} {v w b : V} {t : Tr} (g : G a = some (.part dx v t b q)) (h : MatAt (wg G H) (mat p N (rp (rds t) (exs (bod t)))) w) : InvG CP p n N G (upd H a (.ins CP dx (pf p n v t.len b q w))) := fun x c e => by
  by_cases z : x = a
  · subst z
    rw [g] at e
    cases e
    obtain ⟨_, _, gq, _⟩ := I _ _ g
    refine ⟨w, upd_same, gq, .inr ?_⟩
    rw [wg_put g]
    exact h
  · refine CellOk.glue (fun _ _ e => e) ?_ (upd_ne z) (I x c e)
    rw [wg_put g]
    exact Same.refl _
/-! ### matrices as data -/
def rowD (r : List Int) : PyData := .list (r.map PyData.int)
def matD (M : List (List Int)) : PyData := .list (M.map rowD)
theorem RowAt.dp {K : PySem.W.Frag} {H : Hp} {r : List Int} {v : V} (h : RowAt H r v) : Dp K H v (rowD r) := by
  obtain ⟨a, rfl, h⟩ := h
  exact .lst (SqL.of h) (dp_ints r)
theorem RowsAt.dp {K : PySem.W.Frag} {H : Hp} : ∀ {R : List (List Int)} {vs : List V}, RowsAt H R vs → DpAll K H vs (R.map rowD)
  | [], _, h => by rw [show _ = _ from h]; exact .nil
  | _ :: _, _, ⟨v, us, e, h, t⟩ => by subst e; exact .cons h.dp (RowsAt.dp t)
theorem MatAt.dp {K : PySem.W.Frag} {H : Hp} {M : List (List Int)} {v : V} (h : MatAt H M v) : Dp K H v (matD M) := by
  obtain ⟨a, vs, rfl, h, r⟩ := h
  exact .lst (SqL.of h) r.dp
/-! ### promises of the methods -/
/-- matrices of so many rounds each -/
def MtsAt (p : Int) (N : Nat) (E : List Tr) (H : Hp) : List Nat → List V → Prop
  | [], vs => vs = []
  | e :: es, vs => ∃ v us, vs = v :: us ∧ MatAt H (mat p N (rp e E)) v ∧ MtsAt p N E H es us
section
variable {p : Int} {N : Nat} {E : List Tr} {H H' : Hp}
theorem MtsAt.same (s : Same H H') : ∀ {es : List Nat} {vs : List V}, MtsAt p N E H es vs → MtsAt p N E H' es vs
  | [], _, h => h
  | _ :: _, _, ⟨v, us, e, h, t⟩ => ⟨v, us, e, h.same s, MtsAt.same s t⟩
theorem MtsAt.snoc {e : Nat} {v : V} (a : MatAt H (mat p N (rp e E)) v) : ∀ {es : List Nat} {vs : List V}, MtsAt p N E H es vs → MtsAt p N E H (es ++ [e]) (vs ++ [v])
  | [], _, h => by rw [show _ = _ from h]; exact ⟨v, [], rfl, a, rfl⟩
  | _ :: _, _, ⟨u, us, e, h, t⟩ => ⟨u, us ++ [v], by rw [e]; rfl, h, MtsAt.snoc a t⟩
theorem MtsAt.length : ∀ {es : List Nat} {vs : List V}, MtsAt p N E H es vs → vs.length = es.length
  | [], _, h => by rw [show _ = _ from h]; rfl
  | _ :: _, _, ⟨v, us, e, _, t⟩ => by rw [e, List.length_cons, List.length_cons, MtsAt.length t]
theorem MtsAt.get : ∀ {es : List Nat} {vs : List V} {i : Nat} {v : V}, MtsAt p N E H es vs → vs[i]? = some v → ∃ e, es[i]? = some e ∧ MatAt H (mat p N (rp e E)) v
  | [], _, i, _, h, x => by rw [show _ = _ from h] at x; simp at x
  | e :: es, _, 0, _, ⟨v, us, z, h, t⟩, x => by subst z; cases x; exact ⟨e, rfl, h⟩
  | e :: es, _, i + 1, _, ⟨v, us, z, h, t⟩, x => by subst z; exact MtsAt.get (i := i) t x
end
/-- a row, also where it is let be -/
def RowG (G : Gh) (H : Hp) (r : List Int) (v : V) : Prop := ∃ a, v = .ref a ∧ H a = some (.lst (r.map V.int)) ∧ (G a = none ∨ G a = some .loose)
theorem wg_some {G : Gh} {H : Hp} {a : Addr} {o : HO} (h : wg G H a = some o) : G a = none := by
  cases k : G a with
  | none => rfl
  | some c =>
    unfold wg at h
    rw [k] at h
    cases h
theorem RowG.ev {CP : Addr} {p n : Int} {N m : Nat} {G : Gh} {H H' : Hp} {r : List Int} {v : V} (e : Ev CP p n N G m H H') (h : RowG G H r v) : RowG G H' r v := by
  obtain ⟨a, ea, h, g⟩ := h
  refine ⟨a, ea, ?_, g⟩
  rcases g with g | g
  · exact wg_on _ _ (e.sm a _ (by rw [wg_at g]; exact h))
  · exact (e.lo a g).trans h
theorem RowG.wg {CP : Addr} {p n : Int} {N : Nat} {G : Gh} {H H' : Hp} {X Y : List Int} {v v' : V} {Z : Addr → Prop} (I : InvG CP p n N G H) (h0 : RowAt (wg G H) X v) (h : RowG G H' Y v') (fr : v' = v ∨ ∃ m, v' = .ref m ∧ H m = none ∧ Z m) : RowAt (Lj.wg G H') Y v' := by
  obtain ⟨a, ea, h, _⟩ := h
  refine ⟨a, ea, ?_⟩
  have g : G a = none := by
    rcases fr with e | ⟨m, e, nm, _⟩
    · obtain ⟨b, eb, hb⟩ := h0
      have : a = b := V.ref.inj (ea.symm.trans (e.trans eb))
      rw [this]
      exact wg_some hb
    · have : a = m := V.ref.inj (ea.symm.trans e)
      rw [this]
      exact I.held nm
  rw [wg_at g]
  exact h
end Lj
set_option Elab.async false
set_option linter.all false
set_option maxRecDepth 100000
set_option pp.maxSteps 500
set_option pp.deepTerms.threshold 8
set_option pp.deepTerms false
namespace Lj
open PySem PySem.Spec PyProof.Rows L2
/-! ### parts and tracks are made: the core of the heap, without what is half made -/
structure Core (x : Addr) (H0 H Hc H' : Hp) : Prop where
  a : Same H0 Hc
  b : Same Hc H'
  c : ∀ y o, Hc y = some o → H0 y = some o ∨ H y = none ∨ y = x
  d : But x H H'
structure Grow (G G' : Gh) (H0 : Hp) : Prop where
  g : ∀ a c, G a = some c → G' a = some c
  n : ∀ a c, G' a = some c → G a = some c ∨ H0 a = none
theorem Grow.wg {G G' : Gh} {H0 Hc : Hp} (r : Grow G G' H0) (s : Same H0 Hc) : Same (wg G H0) (wg G' Hc) := fun a o h => by
  have h0 := wg_on _ _ h
  have g0 : G a = none := by
    cases e : G a with
    | none => rfl
    | some c =>
      unfold Lj.wg at h
      rw [e] at h
      cases h
  have g1 : G' a = none := by
    cases e : G' a with
    | none => rfl
    | some c =>
      rcases r.n a c e with z | z
      · rw [g0] at z
        cases z
      · rw [h0] at z
        cases z
  rw [wg_at g1]
  exact s _ _ h0
theorem Grow.refl (G : Gh) (H0 : Hp) : Grow G G H0 := ⟨fun _ _ e => e, fun _ _ e => .inl e⟩
theorem Grow.trans {G G1 G2 : Gh} {H0 H1 : Hp} (r : Grow G G1 H0) (s : Same H0 H1) (q : Grow G1 G2 H1) : Grow G G2 H0 := ⟨fun a c e => q.g a c (r.g a c e), fun a c e => (q.n a c e).elim (r.n a c) fun z => .inr (s.free z)⟩
/-- a part and its list are taken in -/
def gp (G : Gh) (x q dx : Addr) (v : V) (t : Tr) (b : V) : Gh := fun a => if a = x then some (.part dx v t b q) else if a = q then some (.sqs (bod t)) else G a
section
variable {CP : Addr} {p n : Int} {N : Nat} {G : Gh} {H : Hp} {x q dx : Addr} {v b : V} {t : Tr}
theorem gp_grow (I : InvG CP p n N G H) (hx : H x = none) (hq : H q = none) : Grow G (gp G x q dx v t b) H := by
  refine ⟨fun a c e => ?_, fun a c e => ?_⟩
  · have n1 : a ≠ x := fun z => by
      rw [z, I.held hx] at e
      cases e
    have n2 : a ≠ q := fun z => by
      rw [z, I.held hq] at e
      cases e
    unfold gp
    rw [if_neg n1, if_neg n2]
    exact e
  · unfold gp at e
    by_cases z : a = x
    · exact .inr (z ▸ hx)
    · rw [if_neg z] at e
      by_cases z2 : a = q
      · exact .inr (z2 ▸ hq)
      · rw [if_neg z2] at e
        exact .inl e
theorem InvG.part (I : InvG CP p n N G H) (hx : H x = none) (hq : H q = none) (ne : q ≠ x) : InvG CP p n N (gp G x q dx v t b) (upd (upd H q (.lst [])) x (.ins CP dx (pf p n v t.len b q .non))) := fun a c e => by
  have gq : gp G x q dx v t b q = some (.sqs (bod t)) := by
    unfold gp
    rw [if_neg ne, if_pos rfl]
  by_cases z : a = x
  · subst z
    have e' : gp G a q dx v t b a = some (.part dx v t b q) := if_pos rfl
    rw [e'] at e
    cases e
    exact ⟨.non, upd_same, gq, .inl rfl⟩
  · by_cases z2 : a = q
    · subst z2
      rw [gq] at e
      cases e
      exact ⟨[], (upd_ne z).trans upd_same, Nat.zero_le _, fun i m e => by simp at e⟩
    · have e' : gp G x q dx v t b a = G a := by
        unfold gp
        rw [if_neg z, if_neg z2]
      rw [e'] at e
      have r := gp_grow (dx := dx) (v := v) (t := t) (b := b) I hx hq
      refine CellOk.glue (fun y bb e => r.g _ _ e) (r.wg ?_) ((upd_ne z).trans (upd_ne z2)) (I a c e)
      exact same_upd (same_upd (Same.refl _) hq) hx
theorem gp_x : gp G x q dx v t b x = some (.part dx v t b q) := if_pos rfl
end
def spPInit (K : PySem.W.Frag) (CT CP : Addr) (d : Nat) : Sp := fun vs H Q _ => ∃ (p n : Int) (N : Nat) (G : Gh) (H0 : Hp) (x dx : Addr) (v : V) (t : Tr), vs = [.ref x, .int p, .int n, v] ∧ Same H0 H ∧ H0 x = none ∧ H x = some (.ins CP dx []) ∧ InvG CP p n N G H0 ∧ TrAt K (wg G H0) t v ∧ okB d [t] ∧
  ∀ G' Hc H', Core x H0 H Hc H' → Grow G G' H0 → InvG CP p n N G' Hc → PtAt K CT p n G' (wg G' Hc) t (.ref x) → Q .non H'
def spTInit (K : PySem.W.Frag) (CT CP : Addr) (d : Nat) : Sp := fun vs H Q _ => ∃ (p n : Int) (N : Nat) (G : Gh) (H0 : Hp) (x dx : Addr) (v : V) (b : List Tr), vs = [.ref x, .int p, .int n, v] ∧ Same H0 H ∧ H0 x = none ∧ H x = some (.ins CT dx []) ∧ InvG CP p n N G H0 ∧ BodyAt K (wg G H0) b v ∧ okB d b ∧
  ∀ G' Hc H', Core x H0 H Hc H' → Grow G G' H0 → InvG CP p n N G' Hc → TkAt K CT p n G' (wg G' Hc) b (.ref x) → Q .non H'
theorem updd {H : Hp} {a : Addr} {o o' : HO} : upd (upd H a o) a o' = upd H a o' := funext fun b => by
  by_cases z : b = a
  · subst z
    rw [upd_same, upd_same]
  · rw [upd_ne z, upd_ne z, upd_ne z]
theorem core_fin {Hc1 H2 : Hp} {x q : Addr} {l o o5 : HO} (s : Same Hc1 H2) (nx : Hc1 x = none) : Same (upd (upd Hc1 q l) x o) (upd (upd (upd H2 x o5) q l) x o) := fun y z h => by
  by_cases e : y = x
  · subst e
    rw [upd_same] at h ⊢
    exact h
  · rw [upd_ne e] at h ⊢
    by_cases e2 : y = q
    · subst e2
      rw [upd_same] at h ⊢
      exact h
    · rw [upd_ne e2] at h ⊢
      rw [upd_ne e]
      exact s _ _ h
end Lj
set_option Elab.async false
set_option linter.all false
set_option maxRecDepth 100000
set_option pp.maxSteps 500
set_option pp.deepTerms.threshold 8
set_option pp.deepTerms false
namespace Lj
open PySem PySem.Spec PyProof.Rows L2
/-! ### rules with the written part named -/
theorem pi_listK {X : Cx} {K : PySem.W.Frag} {tg l : Expr} {tl : TE} (h : X.K = K) (hl : PE X l tl) : PI X tg l (iList K tl) := h ▸ pi_list hl
/-! ### rows as tuples -/
def TpAt (H : Hp) (r : List Int) (v : V) : Prop := ∃ a, v = .ref a ∧ H a = some (.tup (r.map V.int))
def TpsAt (H : Hp) : List (List Int) → List V → Prop
  | [], vs => vs = []
  | r :: R, vs => ∃ v us, vs = v :: us ∧ TpAt H r v ∧ TpsAt H R us
theorem TpAt.same {H H' : Hp} (s : Same H H') {r : List Int} {v : V} (h : TpAt H r v) : TpAt H' r v := by
  obtain ⟨a, e, h⟩ := h
  exact ⟨a, e, s _ _ h⟩
theorem TpsAt.same {H H' : Hp} (s : Same H H') : ∀ {R : List (List Int)} {vs : List V}, TpsAt H R vs → TpsAt H' R vs
  | [], _, h => h
  | _ :: _, _, ⟨v, us, e, h, t⟩ => ⟨v, us, e, h.same s, TpsAt.same s t⟩
theorem TpsAt.length {H : Hp} : ∀ {R : List (List Int)} {vs : List V}, TpsAt H R vs → vs.length = R.length
  | [], _, h => by rw [show _ = _ from h]; rfl
  | _ :: _, _, ⟨v, us, e, _, t⟩ => by rw [e, List.length_cons, List.length_cons, TpsAt.length t]
theorem TpsAt.get {H : Hp} : ∀ {R : List (List Int)} {vs : List V} {i : Nat} {v : V}, TpsAt H R vs → vs[i]? = some v → ∃ r, R[i]? = some r ∧ TpAt H r v
  | [], _, i, _, h, e => by rw [show _ = _ from h] at e; simp at e
  | r :: R, _, 0, _, ⟨v, us, e, h, t⟩, x => by subst e; cases x; exact ⟨r, rfl, h⟩
  | r :: R, _, i + 1, _, ⟨v, us, e, h, t⟩, x => by subst e; exact TpsAt.get (i := i) t x
theorem TpsAt.snoc {H : Hp} {r : List Int} {v : V} (a : TpAt H r v) : ∀ {R : List (List Int)} {vs : List V}, TpsAt H R vs → TpsAt H (R ++ [r]) (vs ++ [v])
  | [], _, h => by rw [show _ = _ from h]; exact ⟨v, [], rfl, a, rfl⟩
  | _ :: _, _, ⟨u, us, e, h, t⟩ => ⟨u, us ++ [v], by rw [e]; rfl, h, TpsAt.snoc a t⟩
theorem RowsAt.at_ {H : Hp} : ∀ {R : List (List Int)} {vs : List V} {i : Nat} {r : List Int}, RowsAt H R vs → R[i]? = some r → ∃ v, vs[i]? = some v ∧ RowAt H r v
  | [], _, i, _, h, e => by simp at e
  | r :: R, _, 0, _, ⟨v, us, e, h, t⟩, x => by subst e; cases x; exact ⟨v, rfl, h⟩
  | r :: R, _, i + 1, _, ⟨v, us, e, h, t⟩, x => by subst e; exact RowsAt.at_ (i := i) t x
/-! ### lists that are being made, all else as it was -/
/-! ### forms on their way back -/
theorem adjR_nil {p : Int} {N : Nat} {X : List Int} (xl : X.length = N) (xi : In p X) : AdjR p N [] X X [] := ⟨xl, xi, (fun x m => nomatch m), rfl, fun is s hs => ⟨0, by
  show dot N (gN s.row) (gN X) - (dot N (gN s.row) (gN X) + sumF _ 0) = p * 0
  rw [sumF]
  omega⟩⟩
structure FmI (p : Int) (N : Nat) (E : List Tr) (R C : List (List Int)) : Prop where
  len : R.length + 1 = N
  col : ∀ c ∈ C, c.length = R.length
  cnt : (C.length : Int) = rc E
  adj : ∀ (x : Nat) (g : List Int), R[x]? = some g → AdjR p N E (un N (x + 1)) g (C.reverse.map fun c => gN c x)
theorem FmI.start {p : Int} (p0 : 2 ≤ p) {n : Nat} : FmI p (n + 1) [] ((List.range n).map fun x => un (n + 1) (x + 1)) [] := by
  refine ⟨by rw [List.length_map, List.length_range], (fun c m => nomatch m), rfl, fun x g e => ?_⟩
  rw [List.getElem?_map] at e
  obtain ⟨y, hy, rfl⟩ := Option.map_eq_some_iff.mp e
  obtain ⟨hx, rfl⟩ := List.getElem?_eq_some_iff.mp hy
  rw [List.getElem_range]
  exact adjR_nil (un_len _ _) (un_in p0 _ _)
theorem FmI.quiet {p n : Int} {N : Nat} {D E : List Tr} {R R' C : List (List Int)} (h : FmI p N E R C) (gD : Goods p n D) (nr : ∀ t ∈ D, t.word ≠ "read") (l : R'.length = R.length) (a : ∀ (x : Nat) (g g' : List Int), R[x]? = some g → R'[x]? = some g' → Adj p N D g g') : FmI p N (D ++ E) R' C := by
  refine ⟨by rw [l]; exact h.len, fun c m => (h.col c m).trans l.symm, by rw [rc_append, rc_zero nr, h.cnt]; omega, fun x g' e => ?_⟩
  have hx : x < R.length := by rw [← l]; exact (List.getElem?_eq_some_iff.mp e).1
  have e0 : R[x]? = some R[x] := List.getElem?_eq_getElem hx
  have b := (a x _ _ e0 e).toR gD nr
  exact AdjR.comp gD (h.adj x _ e0) b
theorem FmI.row {p : Int} {N : Nat} {E : List Tr} {R C : List (List Int)} (h : FmI p N E R C) {r : List Int} (m : r ∈ R) : r.length = N ∧ In p r := by
  obtain ⟨i, hi, rfl⟩ := List.getElem_of_mem m
  have a := h.adj i _ (List.getElem?_eq_getElem hi)
  exact ⟨a.1, a.2.1⟩
theorem FmI.read {p n : Int} {N : Nat} {E : List Tr} {R C : List (List Int)} (h : FmI p N E R C) (p0 : 0 < p) (hN : (N : Int) = n + 1) {x : Int} (x0 : 0 ≤ x) (x1 : x < n) : FmI p N (.op "read" [x] :: E) (R.map (plRow p "read" [x])) (C ++ [R.map fun r => gt r (x + 1)]) := by
  have g1 : Goods p n [.op "read" [x]] := fun t m => ⟨"read", [x], List.mem_singleton.mp m, .inr (.inl ⟨.inl rfl, x, rfl, x0, x1⟩)⟩
  refine ⟨by rw [List.length_map]; exact h.len, fun c m => ?_, ?_, fun y g' e => ?_⟩
  · rw [List.length_map]
    rcases List.mem_append.mp m with m | m
    · exact h.col c m
    · rw [List.mem_singleton.mp m, List.length_map]
  · show _ = rc ([.op "read" [x]] ++ E)
    rw [rc_append, List.length_append, ← h.cnt]
    show ((C.length + 1 : Nat) : Int) = 1 + C.length
    omega
  · rw [List.getElem?_map] at e
    obtain ⟨g, eg, rfl⟩ := Option.map_eq_some_iff.mp e
    have a := h.adj y g eg
    have r := adjR_read p0 hN x0 x1 a.1 a.2.1
    have z := AdjR.comp g1 a r
    have e2 : gN (R.map fun r => gt r (x + 1)) y = gt g (x + 1) := by
      unfold gN
      rw [List.getD_eq_getElem?_getD, List.getElem?_map, eg]
      rfl
    rw [List.reverse_append, List.map_append]
    show AdjR p N _ _ _ ([gN (R.map fun r => gt r (x + 1)) y] ++ _)
    rw [e2]
    exact z
/-- the forms behind E: weights of registers, then those of inputs -/
def FormsOf (p : Int) (N : Nat) (E : List Tr) (fs : List (List Int)) : Prop := fs.length + 1 = N ∧ ∀ (x : Nat) (f : List Int), fs[x]? = some f → ∃ g cs, f = g ++ cs ∧ AdjR p N E (un N (x + 1)) g cs
def fmR (R C : List (List Int)) (n : Nat) : List (List Int) := (List.range n).map fun x => R.getD x [] ++ C.reverse.map fun c => gN c x
theorem FmI.forms {p : Int} {N : Nat} {E : List Tr} {R C : List (List Int)} {n : Nat} (h : FmI p N E R C) (hn : R.length = n) : FormsOf p N E (fmR R C n) := by
  refine ⟨by rw [fmR, List.length_map, List.length_range, ← hn]; exact h.len, fun x f e => ?_⟩
  unfold fmR at e
  rw [List.getElem?_map] at e
  obtain ⟨y, hy, rfl⟩ := Option.map_eq_some_iff.mp e
  obtain ⟨hx, rfl⟩ := List.getElem?_eq_some_iff.mp hy
  rw [List.length_range] at hx
  rw [List.getElem_range]
  have e0 : R[x]? = some R[x] := List.getElem?_eq_getElem (by omega)
  refine ⟨_, _, rfl, ?_⟩
  rw [List.getD_eq_getElem?_getD, e0]
  exact h.adj x _ e0
/-! ### the promise of forms -/
theorem InvG.loose {CP : Addr} {p n : Int} {N : Nat} {G : Gh} {H : Hp} (I : InvG CP p n N G H) {a : Addr} (g : G a = some .loose) {xs : List V} : InvG CP p n N G (upd H a (.lst xs)) := fun x c e => by
  by_cases z : x = a
  · subst z
    rw [g] at e
    cases e
    exact ⟨_, upd_same, .inl ⟨xs, rfl⟩⟩
  · refine CellOk.glue (fun _ _ e => e) ?_ (upd_ne z) (I x c e)
    rw [wg_put g]
    exact Same.refl _
theorem getI_snoc {α : Type} {R : List α} {j x : Nat} {r g : α} (l : R.length = j) (e : (R ++ [r])[x]? = some g) : (x < j ∧ R[x]? = some g) ∨ (x = j ∧ r = g) := by
  by_cases h : x < j
  · exact .inl ⟨h, by rwa [List.getElem?_append_left (by omega)] at e⟩
  · refine .inr ?_
    have hx := (List.getElem?_eq_some_iff.mp e).1
    rw [List.length_append] at hx
    have hx : x < R.length + 1 := hx
    have : x = j := by omega
    subst this
    rw [List.getElem?_append_right (by omega), l, Nat.sub_self] at e
    cases e
    exact ⟨rfl, rfl⟩
end Lj
set_option Elab.async false
set_option linter.all false
set_option maxRecDepth 100000
set_option pp.maxSteps 2000
set_option pp.deepTerms.threshold 8
set_option pp.deepTerms false
namespace L2
open PySem PySem.Spec PyProof.Rows
section
variable {X : Cx} {e : Expr} {td : TE} {apos cpos : Pos}
/-! ### list(d.values()) -/
theorem paired_nth {α β : Type} {F : α → β → Prop} : ∀ {as : List α} {bs : List β} {i : Nat} {a : α}, Paired F as bs → as[i]? = some a → ∃ b, bs[i]? = some b ∧ F a b
  | _, _, 0, _, .cons h _, e => by
    cases e
    exact ⟨_, rfl, h⟩
  | _, _, i + 1, _, .cons _ t, e => paired_nth (i := i) t e
def tLstVals (td : TE) : TE := fun σ H Q => td σ H fun x H1 => ∃ d kvs, x = .ref d ∧ H1 d = some (.dK kvs) ∧ ∀ q, H1 q = none → Q (.ref q) (upd H1 q (.lst (kvs.map fun kv => kv.2)))
theorem pe_listVals {p pos : Pos} (hc : X.calm = true) (hg : Gl X "list") (hm : X.mg "list" = none) (he : PE X e td) (hbase : attributeBase e "values" X.env (eval e X.env) = eval e X.env := by rfl) (hline : (apos.endLine == cpos.line) = true := by rfl)
    (na : starEach [.Call (.Attribute e "values" apos) [] [] cpos] X.env = (false, eval (.Call (.Attribute e "values" apos) [] [] cpos) X.env) :: starEach [] X.env := by rfl) : PE X (.Call (.Name "list" p) [.Call (.Attribute e "values" apos) [] [] cpos] [] pos) (tLstVals td) := by
  refine ⟨fun pins s σ H Q I h => ?_⟩
  refine Call_ (ld_blt I hg hm boot_list (PyProof.Rows.callWith_type1 (args_cons ?_ na) na))
  refine wpAny_Call_method (T := "dict") (id := "dict.values") hbase rfl hline F.plainAttrs_dict F.slot_dict_values F.type_dict_values (thn (he.run pins s σ H _ I h) fun u s1 ⟨x, H1, I1, rx, d, kvs, ex, hd, q⟩ => ?_)
  subst ex
  obtain rfl : u = Value.ref d := rx
  obtain ⟨z, lo, vs, rk, hdd⟩ := (show ObjOk X.prog X.w H1 s1.heap d (.dK kvs) from I1.hok d _ hd)
  obtain ⟨ep, hat⟩ := hdd.dictAt
  have hl : kvs.length = vs.length := Paired.length rk
  refine ⟨hdd.typeIs, hdd.mapOf.noDict, ?_⟩
  have I2 : Inv X pins σ H1 { s1 with heap := s1.heap.push { cls := .type "dict_values", data := .fields #[.ref d] } } := I1.kept (t' := s1.toks) fun b ob q => Heap.get?_push_of_some _ q
  refine method_meetsIn F.slot_dict_values F.entry_dict_values rfl (PySem.evalArgs_none ⟨rfl, hdd.typeIs, F.args_dict_values_1 _, _, meets_dict_values (mixKind X.prog X.w) d lo, ⟨vs, hdd⟩, ?_⟩)
  refine args_nil ?_
  refine PySem.W.kdl_call (PySem.W.kdl_values (knd := mixKind X.prog X.w) (d := d) (kvs := vs) (ep := ep)) (I2.ok.hd hc) ⟨⟨_, Heap.get?_push_size _ rfl, rfl, rfl⟩, hat.push _⟩ (by rw [← hl]; exact z) fun h' tk acc' c' hkeep hS hacc => ?_
  refine ⟨.ref _, upd H1 _ (.lst (kvs.map fun kv => kv.2)), I2.laid hkeep (Nat.le_refl _) (show ObjOk X.prog X.w _ _ _ (.lst (kvs.map fun kv => kv.2)) from ⟨?_, acc'.toList, c', ?_, ?_⟩), rfl, q _ (I2.hok.fresh (Nat.le_refl _))⟩
  · rw [List.length_map]; exact z
  · have el : acc'.toList.length = acc'.size := by simp
    refine vals_of_at (by rw [List.length_map, el, hacc.1, hl]) fun j x w h1 h2 => ?_
    obtain ⟨k, hky⟩ := hacc.2 j w (by rw [← Array.getElem?_toList]; exact h2)
    rw [List.getElem?_map] at h1
    obtain ⟨kv, hkv, rfl⟩ := Option.map_eq_some_iff.mp h1
    obtain ⟨b, hb, hF⟩ := paired_nth rk hkv
    rw [hky] at hb
    cases hb
    exact hF.2
  · rw [Array.toArray_toList]; exact hS
end
end L2
set_option Elab.async false
set_option linter.all false
set_option maxRecDepth 100000
set_option pp.maxSteps 500
namespace Lj
open PySem PySem.Spec PyProof.Rows L2
/-! ### programs drawn by their size -/
mutual
def Tr.sz : Tr → Nat
  | .op _ _ => 1
  | .loop _ b => 1 + szN b
def szN : List Tr → Nat
  | [] => 0
  | t :: r => t.sz + szN r
end
mutual
/-- loops at most d deep; G: of the others, R: of the rounds -/
def Tr.dr (G : Str → List Int → Prop) (R : Int → Prop) : Tr → Nat → Prop
  | .op w as, _ => G w as
  | .loop _ _, 0 => False
  | .loop k b, d + 1 => R k ∧ drs G R b d
def drs (G : Str → List Int → Prop) (R : Int → Prop) : List Tr → Nat → Prop
  | [], _ => True
  | t :: r, d => t.dr G R d ∧ drs G R r d
end
theorem Tr.sz_pos : ∀ t : Tr, 1 ≤ t.sz
  | .op _ _ => by rw [Tr.sz]; exact Nat.le_refl 1
  | .loop _ b => by rw [Tr.sz]; omega
theorem szN_len : ∀ b : List Tr, b.length ≤ szN b
  | [] => Nat.zero_le _
  | t :: r => by
    rw [szN, List.length_cons]
    have := szN_len r
    have := t.sz_pos
    omega
section
variable {G : Str → List Int → Prop} {R : Int → Prop}
mutual
theorem Tr.dr_wf (hG : ∀ w as, G w as → w ∈ W7) (hR : ∀ k, R k → 0 ≤ k ∧ k ≤ 10 ^ 18) : ∀ (t : Tr) (d : Nat), t.sz ≤ 1001 → t.dr G R d → t.wf d
  | .op w as, d, _, h => by
    rw [Tr.dr] at h
    rw [Tr.wf]
    exact W7_noloop (hG w as h)
  | .loop k b, 0, _, h => by
    rw [Tr.dr] at h
    exact h.elim
  | .loop k b, d + 1, hl, h => by
    rw [Tr.dr] at h
    rw [Tr.sz] at hl
    rw [Tr.wf]
    have := szN_len b
    exact ⟨(hR k h.1).1, (hR k h.1).2, by omega, drs_wf hG hR b d (by omega) h.2⟩
theorem drs_wf (hG : ∀ w as, G w as → w ∈ W7) (hR : ∀ k, R k → 0 ≤ k ∧ k ≤ 10 ^ 18) : ∀ (b : List Tr) (d : Nat), szN b ≤ 1001 → drs G R b d → wfs b d
  | [], _, _, _ => by rw [wfs]; trivial
  | t :: r, d, hl, h => by
    rw [drs] at h
    rw [szN] at hl
    rw [wfs]
    exact ⟨Tr.dr_wf hG hR t d (by omega) h.1, drs_wf hG hR r d (by omega) h.2⟩
end
mutual
theorem Tr.dr_ops : ∀ (t : Tr) (d : Nat), t.dr G R d → ∀ x ∈ t.ex, ∃ z as, x = .op z as ∧ G z as
  | .op w as, d, h => by
    rw [Tr.dr] at h
    rw [Tr.ex]
    intro t m
    exact ⟨w, as, List.mem_singleton.mp m, h⟩
  | .loop k b, 0, h => by rw [Tr.dr] at h; exact h.elim
  | .loop k b, d + 1, h => by
    rw [Tr.dr] at h
    rw [Tr.ex]
    intro t m
    obtain ⟨xs, m1, m2⟩ := List.mem_flatten.mp m
    rw [(List.mem_replicate.mp m1).2] at m2
    exact drs_ops b d h.2 t m2
theorem drs_ops : ∀ (b : List Tr) (d : Nat), drs G R b d → ∀ x ∈ exs b, ∃ z as, x = .op z as ∧ G z as
  | [], _, _ => by rw [exs]; intro t m; cases m
  | t :: r, d, h => by
    rw [drs] at h
    rw [exs]
    intro u m
    rcases List.mem_append.mp m with m | m
    · exact Tr.dr_ops t d h.1 u m
    · exact drs_ops r d h.2 u m
end
mutual
/-- what is executed, with loops of at most r rounds -/
theorem Tr.dr_ex {r : Nat} (r1 : 1 ≤ r) (hR : ∀ k, R k → 0 ≤ k ∧ k ≤ (r : Int)) : ∀ (t : Tr) (d : Nat), t.dr G R d → t.ex.length ≤ t.sz * r ^ d
  | .op w as, d, _ => by
    rw [Tr.ex, Tr.sz, Nat.one_mul]
    exact Nat.pow_pos r1
  | .loop k b, 0, h => by rw [Tr.dr] at h; exact h.elim
  | .loop k b, d + 1, h => by
    rw [Tr.dr] at h
    have ih := drs_ex r1 hR b d h.2
    have hk := hR k h.1
    rw [Tr.ex, Tr.sz, List.length_flatten, List.map_replicate, List.sum_replicate_nat, Nat.pow_succ]
    have h1 : k.toNat * (exs b).length ≤ r * (szN b * r ^ d) := Nat.mul_le_mul (by omega) ih
    have h2 : r * (szN b * r ^ d) = szN b * (r ^ d * r) := by rw [Nat.mul_left_comm, Nat.mul_comm r]
    rw [h2] at h1
    refine Nat.le_trans h1 (Nat.mul_le_mul_right _ (by omega))
theorem drs_ex {r : Nat} (r1 : 1 ≤ r) (hR : ∀ k, R k → 0 ≤ k ∧ k ≤ (r : Int)) : ∀ (b : List Tr) (d : Nat), drs G R b d → (exs b).length ≤ szN b * r ^ d
  | [], _, _ => by rw [exs]; exact Nat.zero_le _
  | t :: q, d, h => by
    rw [drs] at h
    have h1 := Tr.dr_ex r1 hR t d h.1
    have h2 := drs_ex r1 hR q d h.2
    rw [exs, List.length_append, szN, Nat.add_mul]
    omega
end
mutual
/-- how many pieces: the loops that read or write have at most r rounds -/
theorem Tr.dr_pc {r : Nat} (r2 : 2 ≤ r) (hR : ∀ k b, R k → loud b = true → drs G R b 0 ∨ True → k ≤ (r : Int)) : ∀ (t : Tr) (d : Nat), t.dr G R d → t.pcB ≤ t.sz * r ^ d
  | .op w as, d, _ => by
    rw [Tr.pcB, Tr.sz, Nat.one_mul]
    exact Nat.pow_pos (by omega)
  | .loop k b, 0, h => by rw [Tr.dr] at h; exact h.elim
  | .loop k b, d + 1, h => by
    rw [Tr.dr] at h
    have ih := drs_pc r2 hR b d h.2
    rw [Tr.pcB, Tr.sz, Nat.pow_succ]
    have h2 : r * (szN b * r ^ d) = szN b * (r ^ d * r) := by rw [Nat.mul_left_comm, Nat.mul_comm r]
    have h3 : 1 ≤ r ^ d * r := Nat.le_trans (by omega) (Nat.le_mul_of_pos_left r (Nat.pow_pos (by omega)))
    rw [Nat.add_mul, Nat.one_mul]
    split
    · rename_i lo
      have hk := hR k b h.1 lo (.inr trivial)
      have h1 : k.toNat * pcBs b ≤ r * (szN b * r ^ d) := Nat.mul_le_mul (by omega) ih
      omega
    · have h1 : 2 * pcBs b ≤ r * (szN b * r ^ d) := Nat.mul_le_mul r2 ih
      omega
theorem drs_pc {r : Nat} (r2 : 2 ≤ r) (hR : ∀ k b, R k → loud b = true → drs G R b 0 ∨ True → k ≤ (r : Int)) : ∀ (b : List Tr) (d : Nat), drs G R b d → pcBs b ≤ szN b * r ^ d
  | [], _, _ => by rw [pcBs]; exact Nat.zero_le _
  | t :: q, d, h => by
    rw [drs] at h
    have h1 := Tr.dr_pc r2 hR t d h.1
    have h2 := drs_pc r2 hR q d h.2
    rw [pcBs, szN, Nat.add_mul]
    omega
end
mutual
theorem Tr.dr_fine {r : Nat} (r1 : 1 ≤ r) (hG : ∀ w as, G w as → w ∈ W7) (hR : ∀ k, R k → 0 ≤ k ∧ k ≤ (r : Int)) : ∀ (t : Tr) (d : Nat), t.sz * r ^ d ≤ 100000 → t.dr G R d → t.fine
  | .op w as, d, _, h => by
    rw [Tr.dr] at h
    rw [Tr.fine]
    exact hG w as h
  | .loop k b, 0, _, h => by rw [Tr.dr] at h; exact h.elim
  | .loop k b, d + 1, hb, h => by
    rw [Tr.dr] at h
    rw [Tr.sz] at hb
    rw [Tr.fine]
    have ih := drs_ex r1 hR b d h.2
    have h1 : szN b * r ^ d ≤ (1 + szN b) * r ^ (d + 1) := Nat.mul_le_mul (by omega) (Nat.pow_le_pow_right r1 (Nat.le_succ d))
    exact ⟨by omega, drs_fine r1 hG hR b d (by omega) h.2⟩
theorem drs_fine {r : Nat} (r1 : 1 ≤ r) (hG : ∀ w as, G w as → w ∈ W7) (hR : ∀ k, R k → 0 ≤ k ∧ k ≤ (r : Int)) : ∀ (b : List Tr) (d : Nat), szN b * r ^ d ≤ 100000 → drs G R b d → fines b
  | [], _, _, _ => by rw [fines]; trivial
  | t :: q, d, hl, h => by
    rw [drs] at h
    rw [szN, Nat.add_mul] at hl
    rw [fines]
    exact ⟨Tr.dr_fine r1 hG hR t d (by omega) h.1, drs_fine r1 hG hR q d (by omega) h.2⟩
end
mutual
theorem Tr.dr_show (hG : ∀ w as, G w as → Short w as) (hR : ∀ k, R k → k.natAbs < 2 ^ 1000) : ∀ (t : Tr) (d : Nat), t.dr G R d →
    t.datT.showable = true ∧ t.datT.hasDict = false ∧ t.datT.depth ≤ 2 * d + 1 ∧ t.datT.shown.length + 3 ≤ 20002 * t.sz
  | .op w as, d, h => by
    rw [Tr.dr] at h
    obtain ⟨h1, h2, h3⟩ := hG w as h
    obtain ⟨a1, a2, a3, a4, a5⟩ := leaf_all (leaf_ints h3)
    rw [Tr.datT]
    refine ⟨by rw [PyData.showable, PyData.showableAll, PyData.showable, a1]; rfl, by rw [PyData.hasDict, PyData.hasDictAll, PyData.hasDict, a2]; rfl, by rw [PyData.depth, PyData.depthAll, PyData.depth, a3]; exact Nat.succ_le_succ (Nat.zero_le _), ?_⟩
    rw [PyData.shown, PyData.shownAll]
    have z := PySem.tupleText_len_le (PyData.shown (.str w) :: PyData.shownAll (as.map PyData.int))
    rw [List.map_cons, List.sum_cons, List.length_cons, a5] at z
    have z2 := W7_shown h1
    rw [List.length_map] at z a4
    rw [Tr.sz]
    omega
  | .loop k b, 0, h => by rw [Tr.dr] at h; exact h.elim
  | .loop k b, d + 1, h => by
    rw [Tr.dr] at h
    obtain ⟨b1, b2, b3, b4, b5⟩ := drs_show hG hR b d h.2
    obtain ⟨i1, i2, i3, i4⟩ := leaf_int (log_of (hR k h.1) (by decide) (by decide))
    have lp : (PyData.shown (.str "loop")).length ≤ 20 := by decide +kernel
    have y := PySem.tupleText_len_le (PyData.shownAll (datTs b))
    have hb := szN_len b
    rw [Tr.datT]
    refine ⟨by rw [PyData.showable, PyData.showableAll, PyData.showable, PyData.showableAll, i1, PyData.showableAll, PyData.showable, b1, PyData.showableAll]; rfl,
      by rw [PyData.hasDict, PyData.hasDictAll, PyData.hasDict, PyData.hasDictAll, i2, PyData.hasDictAll, PyData.hasDict, b2, PyData.hasDictAll]; rfl,
      by rw [PyData.depth, PyData.depthAll, PyData.depth, PyData.depthAll, i3, PyData.depthAll, PyData.depth, PyData.depthAll]; omega, ?_⟩
    rw [PyData.shown, PyData.shownAll, PyData.shownAll, PyData.shownAll, PyData.shownAll]
    have z := PySem.tupleText_len_le [PyData.shown (.str "loop"), PyData.shown (.int k), PyData.shown (.tuple (datTs b))]
    have ez : (PyData.shown (.tuple (datTs b))) = tupleText (PyData.shownAll (datTs b)) := by rw [PyData.shown]
    rw [List.map_cons, List.map_cons, List.map_cons, List.map_nil, List.sum_cons, List.sum_cons, List.sum_cons, List.sum_nil, ez] at z
    rw [show ([PyData.shown (.str "loop"), PyData.shown (.int k), tupleText (PyData.shownAll (datTs b))] : List Str).length = 3 from rfl] at z
    rw [ez, Tr.sz]
    omega
theorem drs_show (hG : ∀ w as, G w as → Short w as) (hR : ∀ k, R k → k.natAbs < 2 ^ 1000) : ∀ (b : List Tr) (d : Nat), drs G R b d →
    PyData.showableAll (datTs b) = true ∧ PyData.hasDictAll (datTs b) = false ∧ PyData.depthAll (datTs b) ≤ 2 * d + 1 ∧ ((PyData.shownAll (datTs b)).map (·.length)).sum + 3 * b.length ≤ 20002 * szN b ∧ (PyData.shownAll (datTs b)).length = b.length
  | [], d, _ => by
    rw [datTs]
    exact ⟨by rw [PyData.showableAll], by rw [PyData.hasDictAll], by rw [PyData.depthAll]; exact Nat.zero_le _, by rw [PyData.shownAll]; exact Nat.zero_le _, by rw [PyData.shownAll]; rfl⟩
  | t :: r, d, h => by
    rw [drs] at h
    obtain ⟨a1, a2, a3, a4⟩ := Tr.dr_show hG hR t d h.1
    obtain ⟨b1, b2, b3, b4, b5⟩ := drs_show hG hR r d h.2
    rw [datTs]
    refine ⟨by rw [PyData.showableAll, a1, b1]; rfl, by rw [PyData.hasDictAll, a2, b2]; rfl, by rw [PyData.depthAll]; omega, ?_, by rw [PyData.shownAll, List.length_cons, b5, List.length_cons]⟩
    rw [PyData.shownAll, List.map_cons, List.sum_cons, szN, List.length_cons]
    omega
end
end
theorem GoodOp.short {p n : Int} {w : Str} {as : List Int} (g : GoodOp p n w as) (hp : p ≤ 10007) (hn : n ≤ 100) : Short w as := by
  have big : (10007 : Nat) < 2 ^ 1000 := by decide +kernel
  refine ⟨g.w7, ?_⟩
  rcases g with ⟨_, x, c, rfl, x0, x1, c0, c1⟩ | ⟨_, x, rfl, x0, x1⟩ | ⟨_, x, y, rfl, x0, x1, y0, y1, _⟩ | ⟨_, x, y, c, rfl, x0, x1, y0, y1, _, c0, c1⟩
  · exact ⟨by show 2 ≤ 3; omega, fun a m => by rcases List.mem_cons.mp m with rfl | m <;> first | omega | (rw [List.mem_singleton.mp m]; omega)⟩
  · exact ⟨by show 1 ≤ 3; omega, fun a m => by rw [List.mem_singleton.mp m]; omega⟩
  · exact ⟨by show 2 ≤ 3; omega, fun a m => by rcases List.mem_cons.mp m with rfl | m <;> first | omega | (rw [List.mem_singleton.mp m]; omega)⟩
  · refine ⟨by show 3 ≤ 3; omega, fun a m => ?_⟩
    rcases List.mem_cons.mp m with rfl | m
    · omega
    · rcases List.mem_cons.mp m with rfl | m
      · omega
      · rw [List.mem_singleton.mp m]
        omega
/-! ### promises of the law's own defs -/
def spTk7 : Sp := fun vs H Q _ => ∃ (p : Addr) (n : Int) (c : Nat), vs = [.ref p, .int n] ∧ Ur c H p ∧ c ≤ 1000000 ∧ 0 < n ∧ n.natAbs < 2 ^ 1000 ∧
  ∀ (d : Int) H', 0 ≤ d → d < n → Ur (c + 1) H' p → But p H H' → Q (.int d) H'
def spO7 (K : PySem.W.Frag) : Sp := fun vs H Q _ => ∃ (p q : Addr) (xs : List V) (c : Nat), vs = [.ref p, .ref q] ∧ Ur c H p ∧ c ≤ 1000000 ∧ q ≠ p ∧ SqL K H q xs ∧ xs ≠ [] ∧ xs.length ≤ 1000 ∧
  ∀ x H', x ∈ xs → Ur (c + 1) H' p → But p H H' → Q x H'
def spPlain (K : PySem.W.Frag) : Sp := fun vs H Q _ => ∃ (u ws : Addr) (p n : Int) (wl : List Str) (c : Nat), vs = [.ref u, .int p, .int n, .ref ws] ∧ Ur c H u ∧ c ≤ 900000 ∧ 2 ≤ p ∧ p ≤ 10007 ∧ 1 ≤ n ∧ n ≤ 8 ∧ ws ≠ u ∧ SqL K H ws (wl.map V.str) ∧ wl ≠ [] ∧ wl.length ≤ 1000 ∧ (∀ x ∈ wl, x ∈ W7) ∧
  ∀ w as v H', GoodOp p n w as → (w ∈ wl ∨ w = "scale") → TrAt K H' (.op w as) v → Ur (c + 6) H' u → But u H H' → Q v H'
def DrG (p n : Int) (wl : List Str) : Str → List Int → Prop := fun w as => GoodOp p n w as ∧ (w ∈ wl ∨ w = "scale")
/-! ### a test, with a word for what stands behind it -/
/-! ### powers of great numbers -/
def CPowW (i j : Int) : Prop := 0 ≤ j ∧ (Builtin.Int.intBits i : Int) * j ≤ 2 ^ 27
theorem op_powW {X : Cx} : OpR X (binaryOp .Pow) (rI CPowW fun i j => .int (i ^ j.toNat)) := opI fun _ _ _ _ _ _ _ hc q => pow_int hc.1 hc.2 q
end Lj
set_option Elab.async false
set_option linter.all false
set_option maxRecDepth 100000
set_option pp.maxSteps 500
set_option pp.deepTerms.threshold 8
set_option pp.deepTerms false
namespace Lj
open PySem PySem.Spec PyProof.Rows L2
theorem GoodOp.fst {p n : Int} {z : Str} {as : List Int} (g : GoodOp p n z as) : ∃ x r, as = x :: r ∧ 0 ≤ x ∧ x < n := by
  rcases g with ⟨_, x, c, rfl, a, b, _⟩ | ⟨_, x, rfl, a, b⟩ | ⟨_, x, y, rfl, a, b, _⟩ | ⟨_, x, y, c, rfl, a, b, _⟩ <;> exact ⟨_, _, rfl, a, b⟩
theorem Goods.ops {p n : Int} {E : List Tr} (g : Goods p n E) : Ops E := fun t m => by
  obtain ⟨w, as, e, h⟩ := g t m
  exact ⟨w, as, e, h.w7⟩
end Lj
set_option Elab.async false
set_option linter.all false
set_option maxRecDepth 100000
set_option pp.maxSteps 500
set_option pp.deepTerms.threshold 8
set_option pp.deepTerms false
namespace Lj
open PySem PySem.Spec PyProof.Rows L2
/-! ### forms by plain runs -/
theorem sumF_head (f : Nat → Int) : ∀ n : Nat, sumF f (n + 1) = f 0 + sumF (fun i => f (i + 1)) n
  | 0 => by
    rw [sumF, sumF, sumF]
    omega
  | n + 1 => by
    rw [sumF, sumF_head f n, sumF]
    omega
/-- where all but one of the unknowns are 0 -/
def endA (p : Int) (E : List Tr) (n m a : Nat) : List Int := (rns p ((un m a).drop n) (run0 ((un m a).take n)) E).row.tail
def end0 (p : Int) (E : List Tr) (n m : Nat) : List Int := (rns p (List.replicate (m - n) 0) (run0 (List.replicate n 0)) E).row.tail
def lawRow (p : Int) (E : List Tr) (n m x i : Nat) : List Int := gN (end0 p E n m) x :: (List.range i).map fun a => (gN (endA p E n m a) x - gN (end0 p E n m) x) % p
def lawRows (p : Int) (E : List Tr) (n m : Nat) : List (List Int) := (List.range n).map fun x => lawRow p E n m x m
theorem lawRow_len (p : Int) (E : List Tr) (n m x i : Nat) : (lawRow p E n m x i).length = i + 1 := by
  unfold lawRow
  rw [List.length_cons, List.length_map, List.length_range]
theorem gN_take {l : List Int} {n i : Nat} (h : i < n) : gN (l.take n) i = gN l i := by
  unfold gN
  rw [List.getD_eq_getElem?_getD, List.getD_eq_getElem?_getD, List.getElem?_take, if_pos h]
theorem gN_drop (l : List Int) (n j : Nat) : gN (l.drop n) j = gN l (n + j) := by
  unfold gN
  rw [List.getD_eq_getElem?_getD, List.getD_eq_getElem?_getD, List.getElem?_drop]
theorem gN_tail (l : List Int) (j : Nat) : gN l.tail j = gN l (j + 1) := by
  cases l with
  | nil => rfl
  | cons a r => rfl
theorem gN_zeros (n j : Nat) : gN (List.replicate n 0) j = 0 := by
  unfold gN
  rw [List.getD_eq_getElem?_getD, List.getElem?_replicate]
  split <;> rfl
theorem dot_un {N k : Nat} (r : List Int) (h : k < N) : dot N (gN r) (gN (un N k)) = gN r k := by
  unfold dot
  rw [sumF_cong (g := fun i => gN r i * (if i = k then 1 else 0)) fun i hi => by rw [un_gN h]; by_cases e : k = i <;> simp [e, eq_comm]]
  exact sumF_pick (gN r) h
theorem dot_one (n : Nat) (r g : List Int) : dot (n + 1) (gN (1 :: r)) (gN g) = gN g 0 + sumF (fun i => gN r i * gN g (i + 1)) n := by
  unfold dot
  rw [sumF_head]
  have e : gN (1 :: r) 0 = 1 := rfl
  rw [e, Int.one_mul]
  rfl
theorem pickL {n k : Nat} (f : Nat → Int) (h : k < n) : sumF (fun i => (if k = i then 1 else 0) * f i) n = f k := by
  rw [sumF_cong (g := fun i => f i * (if i = k then 1 else 0)) fun i _ => by rw [Int.mul_comm]; by_cases e : k = i <;> simp [e, eq_comm]]
  exact sumF_pick f h
theorem forms_law {p n : Int} {k : Nat} (p0 : 2 ≤ p) (hk : (k : Int) = n) {E : List Tr} (gE : Goods p n E) {m : Nat} (hm : (m : Int) = n + rc E) {fs : List (List Int)} (h : FormsOf p (k + 1) E fs) : fs = lawRows p E k m := by
  have fl : fs.length = k := by have := h.1; omega
  refine List.ext_getElem (by rw [fl, lawRows, List.length_map, List.length_range]) fun x h1 h2 => ?_
  have hx : x < k := by omega
  obtain ⟨g, cs, e, a⟩ := h.2 x _ (List.getElem?_eq_getElem h1)
  rw [e]
  have e2 : (lawRows p E k m)[x] = lawRow p E k m x m := by
    simp only [lawRows, List.getElem_map, List.getElem_range]
  rw [e2]
  obtain ⟨gl, gi, ci, cl, ad⟩ := a
  have pp : 0 < p := by omega
  have key : ∀ (is rs : List Int), rs.length = k → p ∣ gN (rns p is (run0 rs) E).row.tail x - (gN g 0 + sumF (fun i => gN rs i * gN g (i + 1)) k + sumF (fun j => gN cs j * gN is j) cs.length) := fun is rs hr => by
    have z := ad is (run0 rs) (by show (1 :: rs).length = _; rw [List.length_cons, hr])
    rw [dot_un _ (by omega)] at z
    have z2 : dot (k + 1) (gN (run0 rs).row) (gN g) = _ := dot_one k rs g
    rw [z2] at z
    have z3 : sumF (fun j => gN cs j * gN is ((run0 rs).tk + j)) cs.length = sumF (fun j => gN cs j * gN is j) cs.length := sumF_cong fun j _ => by
      show _ * gN is (0 + j) = _
      rw [Nat.zero_add]
    rw [z3] at z
    rw [gN_tail]
    exact z
  have hz : In p (List.replicate k (0 : Int)) := fun y m => by
    rw [List.eq_of_mem_replicate m]
    omega
  have b0 : gN (end0 p E k m) x = gN g 0 := by
    have z := key (List.replicate (m - k) 0) (List.replicate k 0) List.length_replicate
    rw [sumF_zero (f := fun i => gN (List.replicate k 0) i * gN g (i + 1)) fun i _ => by show gN (List.replicate k 0) i * _ = 0; rw [gN_zeros, Int.zero_mul], sumF_zero (f := fun j => gN cs j * gN (List.replicate (m - k) 0) j) fun j _ => by show _ * gN (List.replicate (m - k) 0) j = 0; rw [gN_zeros, Int.mul_zero], Int.add_zero, Int.add_zero] at z
    have i0 : In p (rns p (List.replicate (m - k) 0) (run0 (List.replicate k 0)) E).row := (in_rns (s := run0 (List.replicate k 0)) pp (fun y m => by rw [List.eq_of_mem_replicate m]; omega) gE ⟨fun y m => by
      rcases List.mem_cons.mp m with rfl | m
      · omega
      · exact hz y m, fun y m => absurd m List.not_mem_nil⟩).1
    have c1 := gN_in (fun y m => i0 y (List.mem_of_mem_tail m) : In p (end0 p E k m)) pp x
    have c2 := gN_in gi pp 0
    exact in_eq c1.1 c1.2 c2.1 c2.2 z
  refine ext_gN (N := m + 1) (by rw [List.length_append, gl]; omega) (lawRow_len _ _ _ _ _ _) fun j hj => ?_
  cases j with
  | zero =>
    rw [gN_app, if_pos (by omega)]
    exact b0.symm
  | succ a =>
    have ha : a < m := by omega
    have e3 : gN (lawRow p E k m x m) (a + 1) = (gN (endA p E k m a) x - gN (end0 p E k m) x) % p := by
      unfold lawRow
      rw [gN_cons]
      exact map_gN (fun a => (gN (endA p E k m a) x - gN (end0 p E k m) x) % p) ha
    have z := key ((un m a).drop k) ((un m a).take k) (by rw [List.length_take, un_len]; omega)
    have z : p ∣ gN (endA p E k m a) x - _ := z
    rw [e3, b0]
    rw [gN_app]
    have s1 : sumF (fun i => gN ((un m a).take k) i * gN g (i + 1)) k = sumF (fun i => (if a = i then 1 else 0) * gN g (i + 1)) k := sumF_cong fun i hi => by rw [gN_take hi, un_gN ha]
    have s2 : sumF (fun j => gN cs j * gN ((un m a).drop k) j) cs.length = sumF (fun j => (if a = k + j then 1 else 0) * gN cs j) cs.length := sumF_cong fun j _ => by rw [gN_drop, un_gN ha, Int.mul_comm]
    rw [s1, s2] at z
    by_cases c : a < k
    · rw [if_pos (by omega)]
      rw [pickL (fun i => gN g (i + 1)) c, sumF_zero (f := fun j => (if a = k + j then 1 else 0) * gN cs j) fun j _ => by rw [if_neg (by omega), Int.zero_mul]] at z
      have c2 := gN_in gi pp (a + 1)
      have c3 := in_mod pp (gN (endA p E k m a) x - gN g 0)
      refine (in_eq c3.1 c3.2 c2.1 c2.2 (dvd_trans3 (dvd_mod _ _) ?_)).symm
      obtain ⟨u, hu⟩ := z
      exact ⟨u, by omega⟩
    · rw [if_neg (by omega), gl]
      have s3 : sumF (fun i => (if a = i then 1 else 0) * gN g (i + 1)) k = 0 := sumF_zero fun i hi => by rw [if_neg (by omega), Int.zero_mul]
      have s4 : sumF (fun j => (if a = k + j then 1 else 0) * gN cs j) cs.length = gN cs (a - k) := by
        rw [sumF_cong (g := fun j => (if a - k = j then 1 else 0) * gN cs j) fun j _ => by
          by_cases c : a = k + j
          · rw [if_pos c, if_pos (by omega)]
          · rw [if_neg c, if_neg (by omega)]]
        exact pickL (gN cs) (by omega)
      rw [s3, s4] at z
      have c2 := gN_in ci pp (a - k)
      have c3 := in_mod pp (gN (endA p E k m a) x - gN g 0)
      rw [show a + 1 - (k + 1) = a - k by omega]
      refine (in_eq c3.1 c3.2 c2.1 c2.2 (dvd_trans3 (dvd_mod _ _) ?_)).symm
      obtain ⟨u, hu⟩ := z
      exact ⟨u, by omega⟩
/-- lists of numbers, each at a place of its own -/
def Cols (H0 H' : Hp) (as : List Addr) (f : Nat → List Int) : Prop := as.Nodup ∧ (∀ a ∈ as, H0 a = none) ∧ ∀ x a, as[x]? = some a → H' a = some (.lst ((f x).map V.int))
theorem Cols.same {H0 H1 H2 : Hp} {as : List Addr} {f : Nat → List Int} (h : Cols H0 H1 as f) (s : Same H1 H2) : Cols H0 H2 as f := ⟨h.1, h.2.1, fun x a e => s _ _ (h.2.2 x a e)⟩
theorem Cols.put {H0 H1 : Hp} {as : List Addr} {f : Nat → List Int} (h : Cols H0 H1 as f) {x : Nat} {a : Addr} (e : as[x]? = some a) {r : List Int} {g : Nat → List Int} (hg : g x = r) (ho : ∀ y, y ≠ x → g y = f y) : Cols H0 (upd H1 a (.lst (r.map V.int))) as g := by
  refine ⟨h.1, h.2.1, fun y b eb => ?_⟩
  by_cases c : b = a
  · subst c
    have : y = x := (List.getElem?_inj (List.getElem?_eq_some_iff.mp eb).1 h.1).mp (eb.trans e.symm)
    subst this
    rw [upd_same, hg]
  · rw [upd_ne c, ho y (fun z => by subst z; rw [eb] at e; cases e; exact c rfl)]
    exact h.2.2 y b eb
theorem Cols.new {H0 H1 : Hp} {as : List Addr} {f : Nat → List Int} (h : Cols H0 H1 as f) (s : Same H0 H1) {a : Addr} (n : H1 a = none) {x : Nat} (hx : as.length = x) {r : List Int} (hr : f x = r) : Cols H0 (upd H1 a (.lst (r.map V.int))) (as ++ [a]) f := by
  have na : a ∉ as := fun m => by
    obtain ⟨i, hi, e⟩ := List.getElem_of_mem m
    have := h.2.2 i a (by rw [List.getElem?_eq_getElem hi, e])
    rw [n] at this
    cases this
  refine ⟨List.nodup_append.mpr ⟨h.1, by simp, fun b m c mc => ?_⟩, fun b m => ?_, fun y b e => ?_⟩
  · rw [List.mem_singleton.mp mc]
    exact fun z : b = a => na (z ▸ m)
  · rcases List.mem_append.mp m with m | m
    · exact h.2.1 b m
    · rw [List.mem_singleton.mp m]
      exact s.free n
  · rcases getI_snoc hx e with ⟨_, e2⟩ | ⟨rfl, rfl⟩
    · rw [upd_ne (fun z : b = a => na (z ▸ List.mem_of_getElem? e2))]
      exact h.2.2 y b e2
    · rw [upd_same, hr]
/-! ### keyword arguments of four, in the reverse order -/
/-! ### rows shown -/
theorem FormsOf.rows {p : Int} {N : Nat} {E : List Tr} {fs : List (List Int)} (h : FormsOf p N E fs) (p1 : p ≤ 10007) : ∀ r ∈ fs, (r.length : Int) = N + rc E ∧ ∀ x ∈ r, x.natAbs < 2 ^ 1000 := fun r m => by
  obtain ⟨i, hi, rfl⟩ := List.getElem_of_mem m
  obtain ⟨g, cs, e, gl, gi, ci, cl, _⟩ := h.2 i _ (List.getElem?_eq_getElem hi)
  rw [e]
  refine ⟨by rw [List.length_append]; omega, fun x m => ?_⟩
  rcases List.mem_append.mp m with m | m
  · exact in_small gi p1 x m
  · exact in_small ci p1 x m
end Lj
set_option Elab.async false
set_option linter.all false
set_option maxRecDepth 100000
set_option pp.maxSteps 500
set_option pp.deepTerms.threshold 8
set_option pp.deepTerms false
namespace Lj
open PySem PySem.Spec PyProof.Rows L2
/-! ### the runner beside tracks: its row at l, hidden where it is written -/
structure RnAt (CR CP : Addr) (p n : Int) (N : Nat) (G : Gh) (H : Hp) (x dx l wl g : Addr) (s : RS) : Prop where
  gx : G x = some .loose
  gw : G wl = some .loose
  xw : x ≠ wl
  gl0 : G l = none
  inv : InvG CP p n N (gl G l) H
  hx : H x = some (.ins CR dx (rf p l g s.tk wl))
  hl : H l = some (.lst (s.row.map V.int))
  hw : H wl = some (.lst (s.wr.map V.int))
/-- of the loose places only x and wl are written -/
def Lo (x wl : Addr) (G : Gh) (H H' : Hp) : Prop := ∀ a, G a = some .loose → a ≠ x → a ≠ wl → H' a = H a
theorem Lo.refl (x wl : Addr) (G : Gh) (H : Hp) : Lo x wl G H H := fun _ _ _ _ => rfl
theorem Lo.trans {x wl : Addr} {G : Gh} {H H1 H2 : Hp} (a : Lo x wl G H H1) (b : Lo x wl G H1 H2) : Lo x wl G H H2 := fun c e n1 n2 => (b c e n1 n2).trans (a c e n1 n2)
structure RMTxt (K : PySem.W.Frag) (mg : Str → Option Value) (C : Addr) : Prop where
  t : RTxt K mg C
  nL : NoAttr K C "leap"
section
variable {K : PySem.W.Frag} {CT CR CP : Addr} {p n : Int} {N : Nat} {G : Gh} {H : Hp} {x dx l wl g : Addr} {s : RS}
theorem RnAt.ix (r : RnAt CR CP p n N G H x dx l wl g s) : InvG CP p n N G H := r.inv.shut r.gl0
theorem RnAt.nx (r : RnAt CR CP p n N G H x dx l wl g s) : l ≠ x := fun z => by
  have := r.gl0
  rw [z, r.gx] at this
  cases this
theorem RnAt.nw (r : RnAt CR CP p n N G H x dx l wl g s) : l ≠ wl := fun z => by
  have := r.gl0
  rw [z, r.gw] at this
  cases this
theorem gl_loose {D a : Addr} {G : Gh} (h : G a = some .loose) : gl G D a = some .loose := by
  unfold gl
  split
  · rfl
  · exact h
/-- a loose object is written -/
theorem InvG.obj (I : InvG CP p n N G H) {a : Addr} (g : G a = some .loose) {o : HO} (lo : Loo o) : InvG CP p n N G (upd H a o) := fun x c e => by
  by_cases z : x = a
  · subst z
    rw [g] at e
    cases e
    exact ⟨o, upd_same, lo⟩
  · refine CellOk.glue (fun _ _ e => e) ?_ (upd_ne z) (I x c e)
    rw [wg_put g]
    exact Same.refl _
/-- parts stay parts -/
def Pg (G G' : Gh) : Prop := ∀ a dx v t b q, G a = some (.part dx v t b q) → G' a = some (.part dx v t b q)
theorem Pg.trans {G G1 G2 : Gh} (a : Pg G G1) (b : Pg G1 G2) : Pg G G2 := fun c d v t e q h => b _ _ _ _ _ _ (a _ _ _ _ _ _ h)
theorem Pg.hide {G : Gh} {l : Addr} (h : G l = none) : Pg G (gl G l) := fun a dx v t b q e => gl_sub h _ _ e
theorem Pg.show {G : Gh} {l : Addr} : Pg (gl G l) G := fun a dx v t b q e => by
  have z : a ≠ l := fun z => by rw [z, gl_at] at e; cases e
  rw [gl_ne z] at e
  exact e
mutual
theorem PtAt.monoP {G G' : Gh} {H H' : Hp} (g : Pg G G') (s : Same H H') : ∀ (t : Tr) (v : V), PtAt K CT p n G H t v → PtAt K CT p n G' H' t v
  | .op w as, v, h => by
    rw [PtAt] at h ⊢
    obtain ⟨a, dy, u, q, e, h, t⟩ := h
    exact ⟨a, dy, u, q, e, g _ _ _ _ _ _ h, TrAt.kt (Kt.same s) _ _ t⟩
  | .loop k b, v, h => by
    rw [PtAt] at h ⊢
    obtain ⟨a, dy, u, q, tb, dt, l2, vs, e, h, t, h2, h3, h4⟩ := h
    exact ⟨a, dy, u, q, tb, dt, l2, vs, e, g _ _ _ _ _ _ h, TrAt.kt (Kt.same s) _ _ t, s _ _ h2, s _ _ h3, PtsAt.monoP g s b vs h4⟩
theorem PtsAt.monoP {G G' : Gh} {H H' : Hp} (g : Pg G G') (s : Same H H') : ∀ (b : List Tr) (vs : List V), PtsAt K CT p n G H b vs → PtsAt K CT p n G' H' b vs
  | [], vs, h => by
    rw [PtsAt] at h ⊢
    exact h
  | t :: r, vs, h => by
    rw [PtsAt] at h ⊢
    obtain ⟨v, us, e, h, hs⟩ := h
    exact ⟨v, us, e, PtAt.monoP g s t v h, PtsAt.monoP g s r us hs⟩
end
theorem LpAt.monoP {G G' : Gh} {H H' : Hp} (g : Pg G G') (s : Same H H') {d : Nat} {kk : Int} {b : List Tr} {y : Addr} (h : LpAt K CT p n G H d kk b y) : LpAt K CT p n G' H' d kk b y := ⟨PtAt.monoP g s _ _ h.pt, h.ok, h.gd, h.qt, h.few, h.wd⟩
theorem TkAt.monoP {G G' : Gh} {H H' : Hp} (g : Pg G G') (s : Same H H') {b : List Tr} {y : V} (h : TkAt K CT p n G H b y) : TkAt K CT p n G' H' b y := by
  obtain ⟨tb, dt, l2, vs, e, h1, h2, h3⟩ := h
  exact ⟨tb, dt, l2, vs, e, s _ _ h1, s _ _ h2, PtsAt.monoP g s _ _ h3⟩
end
/-! ### promises -/
section
variable {CP : Addr} {p n : Int} {N : Nat} {G : Gh} {H : Hp}
theorem InvG.openO {D : Addr} {o : HO} (I : InvG CP p n N G H) (h : H D = none) (lo : Loo o) : InvG CP p n N (gl G D) (upd H D o) := fun a c e => by
  by_cases z : a = D
  · subst z
    rw [gl_at] at e
    cases e
    exact ⟨o, upd_same, lo⟩
  · rw [gl_ne z] at e
    refine CellOk.glue (fun x b e => gl_sub (I.held h) _ _ e) ?_ (upd_ne z) (I a c e)
    rw [wg_upd]
    exact wg_open h
/-- a new runner is taken in -/
theorem RnAt.new {CR : Addr} {H1 : Hp} {x dx l wl g : Addr} {rs : List Int} (I : InvG CP p n N G H) (s : Same H H1) (nx : H x = none) (nl : H l = none) (nw : H wl = none) (xw : x ≠ wl) (lw : l ≠ wl) (lx : l ≠ x) (hx : H1 x = some (.ins CR dx (rf p l g 0 wl))) (hl : H1 l = some (.lst ((1 :: rs).map V.int))) (hw : H1 wl = some (.lst [])) :
    RnAt CR CP p n N (gl (gl G x) wl) H1 x dx l wl g (run0 rs) ∧ Same (wg G H) (wg (gl (gl (gl G x) wl) l) H1) := by
  have I1 := I.openO nx (o := .ins CR dx (rf p l g 0 wl)) Loo.ins
  have I2 := I1.openO (D := wl) ((upd_ne xw.symm).trans nw) (o := .lst []) (.inl ⟨_, rfl⟩)
  have I3 := I2.openO (D := l) ((upd_ne lw).trans ((upd_ne lx).trans nl)) (o := .lst ((1 :: rs).map V.int)) (.inl ⟨_, rfl⟩)
  refine ⟨⟨?_, gl_at, xw, ?_, I3.same fun a o h => ?_, hx, hl, hw⟩, fun a o h => ?_⟩
  · rw [gl_ne xw]
    exact gl_at
  · rw [gl_ne lw, gl_ne lx]
    exact I.held nl
  · by_cases z : a = l
    · subst z
      rw [upd_same] at h
      cases h
      exact hl
    · rw [upd_ne z] at h
      by_cases z2 : a = wl
      · subst z2
        rw [upd_same] at h
        cases h
        exact hw
      · rw [upd_ne z2] at h
        by_cases z3 : a = x
        · subst z3
          rw [upd_same] at h
          cases h
          exact hx
        · rw [upd_ne z3] at h
          exact s _ _ h
  · have h0 := wg_on _ _ h
    have z1 : a ≠ l := fun z => by rw [z, nl] at h0; cases h0
    have z2 : a ≠ wl := fun z => by rw [z, nw] at h0; cases h0
    have z3 : a ≠ x := fun z => by rw [z, nx] at h0; cases h0
    rw [wg_at (by rw [gl_ne z1, gl_ne z2, gl_ne z3]; exact wg_some h)]
    exact s _ _ h0
end
end Lj
set_option Elab.async false
set_option linter.all false
set_option maxRecDepth 100000
set_option pp.maxSteps 500
set_option pp.deepTerms.threshold 8
set_option pp.deepTerms false
namespace Lj
open PySem PySem.Spec PyProof.Rows L2
/-! ### all registers behind E, from W points at once -/
/-- points: the first one with 1 in front, the others with 0 -/
structure Pts (p : Int) (n : Nat) (P : Nat → List Int) (W : Nat) : Prop where
  len : ∀ k, k < W → (P k).length = n + 1
  inn : ∀ k, k < W → In p (P k)
  fst : ∀ k, k < W → gN (P k) 0 = if k = 0 then 1 else 0
  w1 : 1 ≤ W
theorem Pts.un {p : Int} (p0 : 2 ≤ p) (n : Nat) : Pts p n (un (n + 1)) (n + 1) := ⟨fun k _ => un_len _ _, fun k _ => un_in p0 _ _, fun k h => un_gN h 0, by omega⟩
theorem Pts.one {p : Int} {n : Nat} {rs : List Int} (p0 : 2 ≤ p) (l : rs.length = n) (i : In p rs) : Pts p n (fun _ => 1 :: rs) 1 := ⟨fun k _ => by rw [List.length_cons, l], fun k _ x m => by
  rcases List.mem_cons.mp m with rfl | m
  · omega
  · exact i x m, fun k h => by
  have : k = 0 := by omega
  subst this
  rfl, Nat.le_refl 1⟩
/-- the number in front stays -/
theorem ex_fst {p n : Int} {w : Str} {as r : List Int} (g : GoodOp p n w as) (hl : (r.length : Int) = n + 1) : gN (exRow p w as r) 0 = gN r 0 := by
  rcases g with ⟨rfl | rfl, x, c, rfl, x0, x1, _⟩ | ⟨rfl | rfl, x, rfl, x0, x1⟩ | ⟨rfl | rfl, x, y, rfl, x0, x1, y0, y1, xy⟩ | ⟨rfl, x, y, c, rfl, x0, x1, y0, y1, _⟩
  · rw [ex_set, gN_sv (by omega), if_neg (by omega)]
  · rw [ex_scale, gN_sv (by omega), if_neg (by omega)]
  · rfl
  · rfl
  · rw [ex_copy, gN_sv (by omega), if_neg (by omega)]
  · rw [ex_swap, gN_sv (by rw [sv_len]; omega), if_neg (by omega), gN_sv (by omega), if_neg (by omega)]
  · rw [ex_add, gN_sv (by omega), if_neg (by omega)]
/-! ### one after the other -/
/-! ### a step -/
end Lj
namespace Lj
open PySem PySem.Spec PyProof.Rows L2
/-! ### rows in the heap: a list of tuples -/
def LTat (H : Hp) (R : List (List Int)) (v : V) : Prop := ∃ a vs, v = .ref a ∧ H a = some (.lst vs) ∧ TpsAt H R vs
theorem LTat.same {H H' : Hp} (s : Same H H') {R : List (List Int)} {v : V} (h : LTat H R v) : LTat H' R v := by
  obtain ⟨a, vs, e, h, t⟩ := h
  exact ⟨a, vs, e, s _ _ h, t.same s⟩
end Lj
set_option Elab.async false
namespace K02
structure EI (p a hi hs lo ls : Int) : Prop where
  lo1 : 1 ≤ lo
  lop : lo ≤ p
  hi1 : 1 ≤ hi
  hip : hi ≤ p
  cop : ∀ d : Int, d ∣ hi → d ∣ lo → d ∣ 1
  eh : ∃ m, hi = a * hs + p * m
  el : ∃ m, lo = a * ls + p * m
theorem EI.start {p a : Int} (h0 : 0 < a) (h1 : a < p) (c : ∀ d : Int, d ∣ p → d ∣ a → d ∣ 1) : EI p a p 0 a 1 :=
  ⟨by omega, by omega, by omega, by omega, c, ⟨1, by rw [Int.mul_zero, Int.mul_one, Int.zero_add]⟩, ⟨0, by rw [Int.mul_one, Int.mul_zero, Int.add_zero]⟩⟩
theorem EI.step {p a hi hs lo ls : Int} (e : EI p a hi hs lo ls) (h : 1 < lo) : EI p a lo ls (hi - hi / lo * lo) (hs - hi / lo * ls) ∧ (hi - hi / lo * lo).toNat < lo.toNat := by
  have em : hi - hi / lo * lo = hi % lo := by rw [Int.emod_def, Int.mul_comm]
  have m0 := Int.emod_nonneg hi (show lo ≠ 0 by omega)
  have m1 := Int.emod_lt_of_pos hi (show 0 < lo by omega)
  have l1 := e.lop
  have nz : hi - hi / lo * lo ≠ 0 := fun z => by
    have d : lo ∣ hi := ⟨hi / lo, by rw [Int.mul_comm]; omega⟩
    have d1 := e.cop lo d (Int.dvd_refl _)
    have d2 := Int.le_of_dvd (by decide) d1
    omega
  refine ⟨⟨by omega, by omega, by omega, by omega, fun d d1 d2 => e.cop d ?_ d1, e.el, ?_⟩, by omega⟩
  · have z : hi = (hi - hi / lo * lo) + hi / lo * lo := by omega
    rw [z]
    exact Int.dvd_add d2 (Int.dvd_mul_of_dvd_right d1)
  · obtain ⟨m, hm⟩ := e.eh
    obtain ⟨n, hn⟩ := e.el
    refine ⟨m - hi / lo * n, ?_⟩
    generalize hi / lo = q
    rw [hm, hn]
    grind
theorem EI.done {p a hi hs lo ls : Int} (e : EI p a hi hs lo ls) (h : ¬ 1 < lo) (hp : 1 < p) : 0 < ls % p ∧ ls % p < p ∧ (ls % p * a) % p = 1 := by
  obtain ⟨n, hn⟩ := e.el
  have l1 := e.lo1
  have l2 : lo = 1 := by omega
  have r0 := Int.emod_nonneg ls (show p ≠ 0 by omega)
  have r1 := Int.emod_lt_of_pos ls (show 0 < p by omega)
  have r2 : (ls % p * a) % p = 1 := by
    rw [Int.mul_emod, Int.emod_emod, ← Int.mul_emod]
    have z : ls * a = 1 + p * (-n) := by grind
    rw [z, Int.add_mul_emod_self_left]
    exact Int.emod_eq_of_lt (by decide) hp
  refine ⟨?_, r1, r2⟩
  by_cases z : ls % p = 0
  · rw [z, Int.zero_mul, Int.zero_emod] at r2
    cases r2
  · omega
/-- no divisor but 1 in common -/
def Cop (p a : Int) : Prop := ∀ d : Int, d ∣ p → d ∣ a → d ∣ 1
theorem cop_of_inv {p a x : Int} (h : x * a % p = 1) : Cop p a := fun d d1 d2 => by
  have z : (1 : Int) = x * a - p * (x * a / p) := by
    rw [← h]
    exact Int.emod_def _ _
  rw [z]
  exact Int.dvd_sub (Int.dvd_mul_of_dvd_right d2) (Int.dvd_mul_of_dvd_left d1)
def primes : List Nat := [2, 2, 3, 3, 5, 7, 7, 11, 13, 97, 251, 9973, 10007]
end K02
set_option Elab.async false
set_option linter.all false
namespace Lj
theorem mem_zw {α β γ : Type} {f : α → β → γ} {c : γ} : ∀ {xs : List α} {ys : List β}, c ∈ List.zipWith f xs ys → ∃ x y, c = f x y
  | [], _, m => absurd m (by simp)
  | _ :: _, [], m => absurd m (by simp)
  | x :: xs, y :: ys, m => by
    rw [List.zipWith_cons_cons] at m
    rcases List.mem_cons.mp m with rfl | m
    · exact ⟨x, y, rfl⟩
    · exact mem_zw m
/-! ### the law's elimination: a row reduced by the rows of a basis, one after another -/
def redS (p : Int) (y : List Int) (e : Nat × List Int) : List Int := List.zipWith (fun a b => (a - row y e.1 * b) % p) y e.2
def red (p : Int) (B : List (Nat × List Int)) (y : List Int) : List Int := B.foldl (redS p) y
def bR (B : List (Nat × List Int)) : List Row := B.map fun e => row e.2
theorem fe_dvd {p a : Int} (h0 : 0 ≤ a) (h1 : a < p) (d : p ∣ a) : a = 0 := by
  by_cases z : a = 0
  · exact z
  · have := Int.le_of_dvd (by omega) d
    omega
/-- rows with a leading 1 each; behind it, all have 0 there -/
structure Bas (p : Int) (L : Nat) (B : List (Nat × List Int)) : Prop where
  ok : ∀ e ∈ B, e.2.length = L ∧ Fe p e.2 ∧ e.1 < L ∧ row e.2 e.1 = 1
  tri : B.Pairwise fun e f => row f.2 e.1 = 0
theorem redS_len {p : Int} {L : Nat} {y : List Int} {e : Nat × List Int} (hy : y.length = L) (he : e.2.length = L) : (redS p y e).length = L := by
  unfold redS
  rw [List.length_zipWith]
  omega
theorem redS_row {p : Int} {L : Nat} {y : List Int} {e : Nat × List Int} (hy : y.length = L) (he : e.2.length = L) {i : Nat} (hi : i < L) : row (redS p y e) i = (row y i - row y e.1 * row e.2 i) % p := by
  unfold redS
  exact row_zip (by omega) (by omega)
theorem redS_fe {p : Int} (hp : 0 < p) {y : List Int} {e : Nat × List Int} : Fe p (redS p y e) := fun a m => by
  unfold redS at m
  obtain ⟨b, c, rfl⟩ := mem_zw m
  exact ⟨Int.emod_nonneg _ (by omega), Int.emod_lt_of_pos _ hp⟩
theorem Bas.cons {p : Int} {L : Nat} {e : Nat × List Int} {B : List (Nat × List Int)} (h : Bas p L (e :: B)) : Bas p L B ∧ (∀ f ∈ B, row f.2 e.1 = 0) ∧ e.2.length = L ∧ Fe p e.2 ∧ e.1 < L ∧ row e.2 e.1 = 1 := by
  have t := List.pairwise_cons.mp h.tri
  exact ⟨⟨fun f m => h.ok f (List.mem_cons_of_mem _ m), t.2⟩, t.1, h.ok e List.mem_cons_self⟩
theorem red_len {p : Int} {L : Nat} : ∀ {B : List (Nat × List Int)} {y : List Int}, (∀ e ∈ B, e.2.length = L) → y.length = L → (red p B y).length = L
  | [], _, _, h => h
  | e :: B, y, hB, h => by
    show (red p B (redS p y e)).length = L
    exact red_len (fun f m => hB f (List.mem_cons_of_mem _ m)) (redS_len h (hB e List.mem_cons_self))
theorem red_fe {p : Int} (hp : 0 < p) : ∀ {B : List (Nat × List Int)} {y : List Int}, Fe p y → Fe p (red p B y)
  | [], _, h => h
  | e :: B, y, _ => by
    show Fe p (red p B (redS p y e))
    exact red_fe hp (redS_fe hp)
theorem red_keep {p : Int} {L k : Nat} (hk : k < L) : ∀ {B : List (Nat × List Int)} {y : List Int}, (∀ e ∈ B, e.2.length = L ∧ row e.2 k = 0) → y.length = L → row y k = 0 → row (red p B y) k = 0
  | [], _, _, _, h => h
  | e :: B, y, hB, l, h => by
    obtain ⟨h1, h2⟩ := hB e List.mem_cons_self
    show row (red p B (redS p y e)) k = 0
    refine red_keep hk (fun f m => hB f (List.mem_cons_of_mem _ m)) (redS_len l h1) ?_
    rw [redS_row l h1 hk, h, h2, Int.mul_zero]
    exact Int.zero_emod _
theorem red_pivot {p : Int} {L : Nat} : ∀ {B : List (Nat × List Int)} {y : List Int}, Bas p L B → y.length = L → ∀ e ∈ B, row (red p B y) e.1 = 0
  | [], _, _, _, e, m => absurd m List.not_mem_nil
  | e :: B, y, h, l, f, m => by
    obtain ⟨hb, h0, el, _, e1, e2⟩ := h.cons
    have l1 : (redS p y e).length = L := redS_len l el
    show row (red p B (redS p y e)) f.1 = 0
    rcases List.mem_cons.mp m with rfl | m
    · refine red_keep e1 (fun g mg => ⟨(hb.ok g mg).1, h0 g mg⟩) l1 ?_
      rw [redS_row l el e1, e2, Int.mul_one, Int.sub_self]
      exact Int.zero_emod _
    · exact red_pivot hb l1 f m
theorem red_span {p : Int} {L : Nat} {S : List Row} {x : Row} (hx : x = x) : ∀ {B : List (Nat × List Int)} {y : List Int}, (∀ e ∈ B, e.2.length = L ∧ InSp p L S (row e.2)) → y.length = L → (InSp p L S (row (red p B y)) ↔ InSp p L S (row y))
  | [], _, _, _ => Iff.rfl
  | e :: B, y, hB, l => by
    obtain ⟨el, es⟩ := hB e List.mem_cons_self
    show InSp p L S (row (red p B (redS p y e))) ↔ _
    rw [red_span hx (fun f m => hB f (List.mem_cons_of_mem _ m)) (redS_len l el)]
    constructor
    · intro h
      refine InSp.lin 1 (row y e.1) h es fun i hi => ?_
      rw [redS_row l el hi]
      obtain ⟨u, hu⟩ := emod_dvd p (row y i - row y e.1 * row e.2 i)
      exact ⟨-u, by grind⟩
    · intro h
      refine InSp.lin 1 (-(row y e.1)) h es fun i hi => ?_
      rw [redS_row l el hi]
      obtain ⟨u, hu⟩ := emod_dvd p (row y i - row y e.1 * row e.2 i)
      exact ⟨u, by grind⟩
theorem bas_zero {p : Int} {L : Nat} : ∀ {B : List (Nat × List Int)} {z : Row}, Bas p L B → InSp p L (bR B) z → (∀ e ∈ B, p ∣ z e.1) → ∀ i, i < L → p ∣ z i
  | [], z, _, h, _ => InSp.nil_iff.mp h
  | e :: B, z, b, h, hz => by
    obtain ⟨hb, h0, el, _, e1, e2⟩ := b.cons
    obtain ⟨c, hc⟩ := InSp.cons_iff.mp (show InSp p L (row e.2 :: bR B) z from h)
    -- at the first pivot all the others are 0
    have zero : ∀ (ws : List Int) (B : List (Nat × List Int)), (∀ f ∈ B, row f.2 e.1 = 0) → comb ws (bR B) e.1 = 0 := by
      intro ws B
      induction B generalizing ws with
      | nil =>
        intro _
        exact comb_nil ws e.1
      | cons f B ih =>
        intro hf
        cases ws with
        | nil => exact comb_nilL _ _
        | cons w ws =>
          show w * row f.2 e.1 + comb ws (bR B) e.1 = 0
          rw [hf f List.mem_cons_self, ih ws fun g m => hf g (List.mem_cons_of_mem _ m)]
          omega
    have hc0 : p ∣ c := by
      obtain ⟨ws, hw⟩ := hc
      have h1 := hw e.1 e1
      rw [zero ws B h0] at h1
      have h1 : p ∣ z e.1 - c * row e.2 e.1 - 0 := h1
      rw [e2] at h1
      obtain ⟨u, hu⟩ := h1
      obtain ⟨v, hv⟩ := hz e List.mem_cons_self
      exact ⟨v - u, by grind⟩
    refine bas_zero hb (hc.cong fun i _ => ?_) fun f m => hz f (List.mem_cons_of_mem _ m)
    obtain ⟨u, hu⟩ := hc0
    exact ⟨u * row e.2 i, by grind⟩
theorem bR_mem {p : Int} {L : Nat} {B : List (Nat × List Int)} {e : Nat × List Int} (m : e ∈ B) : InSp p L (bR B) (row e.2) := InSp.mem (List.mem_map.mpr ⟨e, m, rfl⟩)
/-- what is left is nothing exactly if the row is in the span -/
theorem red_iff {p : Int} (hp : 0 < p) {L : Nat} {B : List (Nat × List Int)} {y : List Int} (b : Bas p L B) (l : y.length = L) (f : Fe p y) : InSp p L (bR B) (row y) ↔ ∀ i, i < L → row (red p B y) i = 0 := by
  have sp := red_span (p := p) (L := L) (S := bR B) (x := row y) rfl (B := B) (y := y) (fun e m => ⟨(b.ok e m).1, bR_mem m⟩) l
  have rl := red_len (p := p) (fun e m => (b.ok e m).1) l
  constructor
  · intro h i hi
    have z := bas_zero b (sp.mpr h) (fun e m => by rw [red_pivot b l e m]; exact Int.dvd_zero p) i hi
    obtain ⟨h0, h1⟩ := (red_fe hp (B := B) f).row (i := i) (by omega)
    exact fe_dvd h0 h1 z
  · intro h
    exact sp.mp (InSp.zero fun i hi => by rw [h i hi]; exact Int.dvd_zero p)
/-- a basis of the span of R -/
structure BasOf (p : Int) (L : Nat) (B : List (Nat × List Int)) (R : List Row) : Prop extends Bas p L B where
  sp : ∀ x, InSp p L (bR B) x ↔ InSp p L R x
  cnt : B.length = dim p L R
  le : B.length ≤ R.length
theorem BasOf.nil (p : Int) (L : Nat) : BasOf p L [] [] := ⟨⟨fun e m => absurd m List.not_mem_nil, List.Pairwise.nil⟩, fun x => Iff.rfl, rfl, Nat.le_refl _⟩
theorem insp_app {p : Int} {L : Nat} {R S : List Row} {a b x : Row} (h : ∀ x, InSp p L S x ↔ InSp p L R x) (h1 : InSp p L (R ++ [b]) a) (hx : InSp p L (S ++ [a]) x) : InSp p L (R ++ [b]) x := hx.into fun r m => by
  rcases List.mem_append.mp m with m | m
  · exact ((h r).mp (InSp.mem m)).mono fun z mz => List.mem_append_left _ mz
  · rw [List.mem_singleton.mp m]
    exact h1
theorem BasOf.same {p : Int} {L : Nat} {B : List (Nat × List Int)} {R : List Row} {y : List Int} (hp : 0 < p) (b : BasOf p L B R) (l : y.length = L) (f : Fe p y) (h : ∀ i, i < L → row (red p B y) i = 0) : BasOf p L B (R ++ [row y]) := by
  have hy : InSp p L R (row y) := (b.sp _).mp ((red_iff hp b.toBas l f).mpr h)
  refine ⟨b.toBas, fun x => ⟨fun hx => ((b.sp x).mp hx).mono fun r m => List.mem_append_left _ m, fun hx => (b.sp x).mpr (hx.into fun r m => ?_)⟩, ?_, ?_⟩
  · rcases List.mem_append.mp m with m | m
    · exact InSp.mem m
    · rw [List.mem_singleton.mp m]
      exact hy
  · rw [dim_back, if_pos hy, b.cnt]
    rfl
  · rw [List.length_append]
    have := b.le
    omega
theorem BasOf.add {p : Int} {L : Nat} {B : List (Nat × List Int)} {R : List Row} {y : List Int} (hp : 1 < p) (b : BasOf p L B R) (l : y.length = L) (f : Fe p y) {c : Nat} (hc : c < L) {s : Int} (hs : s * row (red p B y) c % p = 1) : BasOf p L (B ++ [(c, (red p B y).map fun a => s * a % p)]) (R ++ [row y]) := by
  have rl := red_len (p := p) (fun e m => (b.ok e m).1) l
  have sp : ∀ S : List Row, (∀ e ∈ B, InSp p L S (row e.2)) → (InSp p L S (row (red p B y)) ↔ InSp p L S (row y)) := fun S hS => red_span (x := row y) rfl (fun e m => ⟨(b.ok e m).1, hS e m⟩) l
  have kr : ∀ i, i < L → row ((red p B y).map fun a => s * a % p) i = s * row (red p B y) i % p := fun i hi => row_map (f := fun a => s * a % p) (by omega)
  have hny : ¬ InSp p L R (row y) := fun h => by
    have := (red_iff (by omega) b.toBas l f).mp ((b.sp _).mpr h) c hc
    rw [this, Int.mul_zero, Int.zero_emod] at hs
    omega
  have eb : bR (B ++ [(c, (red p B y).map fun a => s * a % p)]) = bR B ++ [row ((red p B y).map fun a => s * a % p)] := by
    unfold bR
    rw [List.map_append]
    rfl
  refine ⟨⟨fun e m => ?_, ?_⟩, fun x => ?_, ?_, ?_⟩
  · rcases List.mem_append.mp m with m | m
    · exact b.ok e m
    · rw [List.mem_singleton.mp m]
      refine ⟨by rw [List.length_map, rl], Fe.mod (by omega) _ _, hc, ?_⟩
      show row ((red p B y).map fun a => s * a % p) c = 1
      rw [kr c hc, hs]
  · refine List.pairwise_append.mpr ⟨b.tri, List.pairwise_singleton _ _, fun e m g mg => ?_⟩
    rw [List.mem_singleton.mp mg]
    show row ((red p B y).map fun a => s * a % p) e.1 = 0
    rw [kr _ (b.ok e m).2.2.1, red_pivot b.toBas l e m, Int.mul_zero, Int.zero_emod]
  · rw [eb]
    have inl : ∀ {S : List Row} {a : Row}, ∀ e ∈ B, InSp p L (bR B ++ [a]) (row e.2) := fun e m => InSp.mem (List.mem_append_left _ (List.mem_map.mpr ⟨e, m, rfl⟩))
    constructor
    · refine insp_app b.sp ?_
      have h1 : InSp p L (R ++ [row y]) (row (red p B y)) := (sp _ fun e m => ((b.sp _).mp (bR_mem m)).mono fun z mz => List.mem_append_left _ mz).mpr (InSp.mem (List.mem_append_right _ List.mem_cons_self))
      refine InSp.lin s 0 h1 h1 fun i hi => ?_
      rw [kr i hi]
      obtain ⟨u, hu⟩ := emod_dvd p (s * row (red p B y) i)
      exact ⟨u, by grind⟩
    · refine insp_app (fun x => (b.sp x).symm) ?_
      have h1 : InSp p L (bR B ++ [row ((red p B y).map fun a => s * a % p)]) (row ((red p B y).map fun a => s * a % p)) := InSp.mem (List.mem_append_right _ List.mem_cons_self)
      refine (sp _ fun e m => inl (S := R) e m).mp (InSp.lin (row (red p B y) c) 0 h1 h1 fun i hi => ?_)
      rw [kr i hi]
      obtain ⟨u, hu⟩ := emod_dvd p (s * row (red p B y) i)
      have e1 : s * row (red p B y) c = 1 + p * (s * row (red p B y) c / p) := by
        have := Int.emod_def (s * row (red p B y) c) p
        omega
      generalize s * row (red p B y) c / p = v at e1
      generalize row (red p B y) i = a at *
      generalize row (red p B y) c = d at *
      exact ⟨-(d * u) - v * a, by grind⟩
  · rw [List.length_append, dim_back, if_neg hny, b.cnt]
    rfl
  · rw [List.length_append, List.length_append]
    have := b.le
    show B.length + 1 ≤ R.length + 1
    omega
/-! ### a row in the place of which there is nothing -/
theorem insp_set {p : Int} {L : Nat} {R : List (List Int)} {x : Nat} {z : List Int} (hz : ∀ i, row z i = 0) {y : Row} : InSp p L ((R.set x z).map row) y ↔ InSp p L ((R.eraseIdx x).map row) y := by
  constructor
  · intro h
    refine h.into fun r m => ?_
    obtain ⟨a, ma, rfl⟩ := List.mem_map.mp m
    obtain ⟨i, hi⟩ := List.mem_iff_getElem?.mp ma
    rw [List.getElem?_set] at hi
    by_cases e : x = i
    · rw [if_pos e] at hi
      split at hi
      · cases hi
        exact InSp.zero fun i _ => by rw [hz i]; exact Int.dvd_zero p
      · cases hi
    · rw [if_neg e] at hi
      refine InSp.mem (List.mem_map.mpr ⟨a, ?_, rfl⟩)
      by_cases lt : i < x
      · exact List.mem_iff_getElem?.mpr ⟨i, by rw [List.getElem?_eraseIdx, if_pos lt]; exact hi⟩
      · refine List.mem_iff_getElem?.mpr ⟨i - 1, ?_⟩
        rw [List.getElem?_eraseIdx, if_neg (by omega), show i - 1 + 1 = i by omega]
        exact hi
  · intro h
    refine h.mono fun r m => ?_
    obtain ⟨a, ma, rfl⟩ := List.mem_map.mp m
    obtain ⟨i, hi⟩ := List.mem_iff_getElem?.mp ma
    rw [List.getElem?_eraseIdx] at hi
    refine List.mem_map.mpr ⟨a, ?_, rfl⟩
    by_cases lt : i < x
    · rw [if_pos lt] at hi
      exact List.mem_iff_getElem?.mpr ⟨i, by rw [List.getElem?_set, if_neg (by omega)]; exact hi⟩
    · rw [if_neg lt] at hi
      exact List.mem_iff_getElem?.mpr ⟨i + 1, by rw [List.getElem?_set, if_neg (by omega)]; exact hi⟩
/-- a row that is a combination of the others has weight 0 among them -/
theorem Wts.zero {p : Int} {L : Nat} {R : List Row} {x : Row} {w : List Int} (h : Wts p L R x w) {c : Nat} (hc : c < R.length) (hz : ∀ i, i < L → (R.getD c fun _ => 0) i = 0) : w.getD c 0 = 0 := Classical.byContradiction fun n => h.nz c hc n (InSp.zero fun i hi => by rw [hz i hi]; exact Int.dvd_zero p)
/-! ### the law's sum of rows -/
end Lj
set_option Elab.async false
set_option linter.all false
namespace Lj
/-! ### primes, each by the inverses of all its elements -/
theorem pm_at {q a : Nat} (ok : pmOk q = true) (h0 : 0 < a) (h1 : a < q) : a * pmg 14 q 1 a (q - 2) % q = 1 := by
  have k := List.all_eq_true.mp ok a (List.mem_range.mpr h1)
  rw [Bool.or_eq_true] at k
  rcases k with k | k
  · exact absurd (Nat.eq_of_beq_eq_true k) (by omega)
  · exact Nat.eq_of_beq_eq_true k
theorem pm_int {n : Nat} (ok : pmOk n = true) {a : Int} (h0 : 0 < a) (h1 : a < (n : Int)) : ∃ b z : Int, b * a = 1 + (n : Int) * z := by
  have k := pm_at ok (a := a.toNat) (by omega) (by omega)
  generalize pmg 14 n 1 a.toNat (n - 2) = b at k
  refine ⟨(b : Int), ((a.toNat * b / n : Nat) : Int), ?_⟩
  have e1 : ((a.toNat * b : Nat) : Int) = (n : Int) * ((a.toNat * b / n : Nat) : Int) + 1 := by
    have := Nat.div_add_mod (a.toNat * b) n
    rw [k] at this
    rw [← Int.natCast_mul]
    omega
  rw [Int.natCast_mul, show ((a.toNat : Nat) : Int) = a by omega] at e1
  rw [Int.mul_comm (b : Int) a, e1]
  omega
theorem pinv_nat {n : Nat} (n1 : 1 < n) (ok : pmOk n = true) : PInv (n : Int) := by
  refine ⟨by omega, fun a ha => ?_⟩
  have m0 := Int.emod_nonneg a (show (n : Int) ≠ 0 by omega)
  have m1 := Int.emod_lt_of_pos a (show (0 : Int) < n by omega)
  have mz : a % n ≠ 0 := fun z => ha (Int.dvd_of_emod_eq_zero z)
  obtain ⟨b, z, e⟩ := pm_int ok (a := a % n) (by omega) m1
  have e4 := Int.emod_def a n
  rw [e4] at e
  generalize a / n = d at e
  exact ⟨b, z + d * b, by grind⟩
theorem cop_nat {n : Nat} (ok : pmOk n = true) (n1 : 1 < n) (a : Int) (a0 : 0 < a) (a1 : a < (n : Int)) : K02.Cop (n : Int) a := by
  obtain ⟨b, z, e⟩ := pm_int ok a0 a1
  refine K02.cop_of_inv (x := b) ?_
  rw [e, Int.add_mul_emod_self_left]
  exact Int.emod_eq_of_lt (by decide) (by omega)
/-- a prime, as far as it is needed -/
structure Prm (p : Int) : Prop where
  lo : 2 ≤ p
  hi : p ≤ 10007
  inv : PInv p
  cop : ∀ a, 0 < a → a < p → K02.Cop p a
def prmN : List Nat := [2, 3, 5, 7, 101, 10007]
theorem prmN_ok : (prmN.all fun n => Nat.blt 1 n && Nat.ble n 10007 && pmOk n) = true := by decide +kernel
theorem prm_of {q : Int} (h : q ∈ prmN.map fun n : Nat => (n : Int)) : Prm q := by
  obtain ⟨n, hn, rfl⟩ := List.mem_map.mp h
  have k := List.all_eq_true.mp prmN_ok n hn
  rw [Bool.and_eq_true, Bool.and_eq_true] at k
  obtain ⟨⟨k1, k2⟩, k3⟩ := k
  have k1 : 1 < n := Nat.le_of_ble_eq_true k1
  have k2 := Nat.le_of_ble_eq_true k2
  exact ⟨by omega, by omega, pinv_nat k1 k3, cop_nat k3 k1⟩
theorem prm_in {l : List Int} {q : Int} (h : q ∈ l) (s : (l.all fun q => decide (q ∈ prmN.map fun n : Nat => (n : Int))) = true) : Prm q := prm_of (of_decide_eq_true (List.all_eq_true.mp s q h))
end Lj
set_option Elab.async false
set_option linter.all false
set_option maxRecDepth 100000
namespace Lj
open PySem PySem.Spec PyProof.Rows L2
/-! ### the register that is overwritten -/
def ovw (z : Str) (as : List Int) : Option Int := if z = "set" ∨ z = "copy" ∨ z = "read" ∨ (z = "scale" ∧ as[1]? = some 0) then as[0]? else none
def ovV : Option Int → V
  | some x => .int x
  | none => .non
theorem inV3 {w a b c : Str} : inV (.str w) [.str a, .str b, .str c] = true ↔ (w = a ∨ w = b ∨ w = c) := by
  show (a == w || (b == w || (c == w || false))) = true ↔ _
  rw [Bool.or_false, Bool.or_eq_true, Bool.or_eq_true, beq_iff_eq, beq_iff_eq, beq_iff_eq]
  constructor
  · rintro (h | h | h)
    · exact .inl h.symm
    · exact .inr (.inl h.symm)
    · exact .inr (.inr h.symm)
  · rintro (h | h | h)
    · exact .inl h.symm
    · exact .inr (.inl h.symm)
    · exact .inr (.inr h.symm)
theorem ovw_in {p n : Int} {z : Str} {as : List Int} (g : GoodOp p n z as) {x : Int} (h : ovw z as = some x) : 0 ≤ x ∧ x < n := by
  unfold ovw at h
  split at h
  · rcases g with ⟨_, y, c, rfl, a, b, _⟩ | ⟨_, y, rfl, a, b⟩ | ⟨_, y, c, rfl, a, b, _⟩ | ⟨_, y, c, d, rfl, a, b, _⟩ <;> cases h <;> exact ⟨a, b⟩
  · cases h
def spOv (K : PySem.W.Frag) : Sp := fun vs H Q _ => ∃ (v : V) (z : Str) (as : List Int) (p n : Int), vs = [v] ∧ TrAt K H (.op z as) v ∧ GoodOp p n z as ∧ ∀ H', Same H H' → Q (ovV (ovw z as)) H'
theorem FormsOf.fe {p : Int} {N : Nat} {E : List Tr} {fs : List (List Int)} (h : FormsOf p N E fs) : ∀ r ∈ fs, Fe p r := fun r m => by
  obtain ⟨i, hi, rfl⟩ := List.getElem_of_mem m
  obtain ⟨g, cs, e, gl, gi, ci, cl, _⟩ := h.2 i _ (List.getElem?_eq_getElem hi)
  rw [e]
  intro x m
  rcases List.mem_append.mp m with m | m
  · exact gi x m
  · exact ci x m
/-! ### what recovery tells -/
def lin (fs : List (List Int)) : List (List Int) := fs.map List.tail
def oth (m : Nat) (fs : List (List Int)) (x : Nat) : List (List Int) := (lin fs).set x (List.replicate m 0)
/-- register x is a combination of the others -/
def Held (p : Int) (m : Nat) (fs : List (List Int)) (x : Nat) : Prop := InSp p m (((lin fs).eraseIdx x).map row) (row ((lin fs).getD x []))
def cst (p : Int) (fs : List (List Int)) (x : Nat) (u : List Int) : Int := (row (fs.getD x []) 0 - comb u (fs.map row) 0) % p
theorem row_zeros (n i : Nat) : row (List.replicate n 0) i = 0 := by
  by_cases h : i < n
  · refine row_get ?_
    rw [List.getElem?_replicate, if_pos h]
  · exact row_out (by rw [List.length_replicate]; omega)
theorem held_oth {p : Int} {m : Nat} {fs : List (List Int)} {x : Nat} : InSp p m ((oth m fs x).map row) (row ((lin fs).getD x [])) ↔ Held p m fs x := insp_set fun i => row_zeros m i
def RcV (K : PySem.W.Frag) (H : Hp) (p : Int) (m : Nat) (fs : List (List Int)) (o : Option Int) (r : V) (d : PyData) : Prop :=
  (o = none ∧ r = .non ∧ d = .none) ∨
  (∃ x : Nat, o = some (x : Int) ∧ x < fs.length ∧ ¬ Held p m fs x ∧ ∃ t, r = .ref t ∧ SqT K H t [.str "pop", .int (x : Int)] ∧ d = .tuple [.str "pop", .int (x : Int)]) ∨
  (∃ x : Nat, o = some (x : Int) ∧ x < fs.length ∧ ∃ (u : List Int) (t tw : Addr), Wts p m ((oth m fs x).map row) (row ((lin fs).getD x [])) u ∧ r = .ref t ∧ SqT K H t [.str "sum", .int (x : Int), .int (cst p fs x u), .ref tw] ∧ SqT K H tw (u.map V.int) ∧ d = .tuple [.str "sum", .int (x : Int), .int (cst p fs x u), .tuple (u.map PyData.int)])
theorem RcV.same {K : PySem.W.Frag} {H H' : Hp} {p : Int} {m : Nat} {fs : List (List Int)} {o : Option Int} {r : V} {d : PyData} (s : Same H H') (h : RcV K H p m fs o r d) : RcV K H' p m fs o r d := by
  rcases h with h | ⟨x, a, b, c, t, e, st, f⟩ | ⟨x, a, b, u, t, tw, wt, e, st, sw, f⟩
  · exact .inl h
  · exact .inr (.inl ⟨x, a, b, c, t, e, (Kt.same s).sq st, f⟩)
  · exact .inr (.inr ⟨x, a, b, u, t, tw, wt, e, (Kt.same s).sq st, (Kt.same s).sq sw, f⟩)
theorem RcV.uniq {K : PySem.W.Frag} {H H' : Hp} {p : Int} (hp : PInv p) {m : Nat} {fs : List (List Int)} {o : Option Int} {r r' : V} {d d' : PyData} (h : RcV K H p m fs o r d) (h' : RcV K H' p m fs o r' d') : d = d' := by
  rcases h with ⟨e, _, rfl⟩ | ⟨x, e, b, c, t, _, _, rfl⟩ | ⟨x, e, b, u, t, tw, wt, _, _, _, rfl⟩
  · rcases h' with ⟨e', _, rfl⟩ | ⟨x', e', _⟩ | ⟨x', e', _⟩
    · rfl
    · rw [e] at e'; cases e'
    · rw [e] at e'; cases e'
  · rcases h' with ⟨e', _, rfl⟩ | ⟨x', e', b', c', t', _, _, rfl⟩ | ⟨x', e', b', u', t', tw', wt', _, _, _, rfl⟩
    · rw [e] at e'; cases e'
    · rw [e] at e'; cases e'; rfl
    · rw [e] at e'
      cases e'
      exact absurd (held_oth.mp wt'.in_sp) c
  · rcases h' with ⟨e', _, rfl⟩ | ⟨x', e', b', c', t', _, _, rfl⟩ | ⟨x', e', b', u', t', tw', wt', _, _, _, rfl⟩
    · rw [e] at e'; cases e'
    · rw [e] at e'
      cases e'
      exact absurd (held_oth.mp wt.in_sp) c'
    · rw [e] at e'
      cases e'
      rw [wt.uniq hp wt']
theorem leaf_tup {ds : List PyData} (h : ∀ d ∈ ds, Leaf d) (n : ds.length ≤ 8000) : (PyData.tuple ds).showable = true ∧ (PyData.tuple ds).hasDict = false ∧ (PyData.tuple ds).depth ≤ 1 ∧ (PyData.tuple ds).shown.length ≤ 1930 * ds.length + 100 := by
  obtain ⟨b1, b2, b3, b4, b5⟩ := leaf_all h
  refine ⟨by rw [PyData.showable]; exact b1, by rw [PyData.hasDict]; exact b2, by rw [PyData.depth, b3]; decide, ?_⟩
  rw [PyData.shown]
  have := PySem.tupleText_len_le (PyData.shownAll ds)
  omega
theorem leaf_pop : Leaf (.str "pop") := ⟨by rw [PyData.showable], by rw [PyData.hasDict], by rw [PyData.depth], by decide +kernel⟩
theorem leaf_sum : Leaf (.str "sum") := ⟨by rw [PyData.showable], by rw [PyData.hasDict], by rw [PyData.depth], by decide +kernel⟩
theorem leaf_lt {x : Int} (h0 : 0 ≤ x) (h1 : x < 20000) : Leaf (.int x) := by
  have big : (20000 : Nat) < 2 ^ 1000 := by decide +kernel
  exact leaf_int (log_of (k := 1000) (by omega) (by decide) (by decide))
theorem sum_show {x c : Int} {u : List Int} (hx : Leaf (.int x)) (hc : Leaf (.int c)) (hu : ∀ n ∈ u, n.natAbs < 2 ^ 1000) (ul : u.length ≤ 1000) : (PyData.tuple [.str "sum", .int x, .int c, .tuple (u.map PyData.int)]).showable = true ∧ (PyData.tuple [.str "sum", .int x, .int c, .tuple (u.map PyData.int)]).hasDict = false ∧ (PyData.tuple [.str "sum", .int x, .int c, .tuple (u.map PyData.int)]).depth ≤ 64 ∧ (PyData.tuple [.str "sum", .int x, .int c, .tuple (u.map PyData.int)]).shown.length ≤ sizeLine := by
  obtain ⟨s1, s2, s3, s4⟩ := leaf_sum
  obtain ⟨x1, x2, x3, x4⟩ := hx
  obtain ⟨c1, c2, c3, c4⟩ := hc
  obtain ⟨t1, t2, t3, t4⟩ := leafs_tup hu
  refine ⟨by rw [PyData.showable, PyData.showableAll, PyData.showableAll, PyData.showableAll, PyData.showableAll, PyData.showableAll, s1, x1, c1, t1]; rfl, by rw [PyData.hasDict, PyData.hasDictAll, PyData.hasDictAll, PyData.hasDictAll, PyData.hasDictAll, PyData.hasDictAll, s2, x2, c2, t2]; rfl, by rw [PyData.depth, PyData.depthAll, PyData.depthAll, PyData.depthAll, PyData.depthAll, PyData.depthAll, s3, x3, c3, t3]; decide, ?_⟩
  rw [PyData.shown, PyData.shownAll, PyData.shownAll, PyData.shownAll, PyData.shownAll, PyData.shownAll]
  have z := PySem.tupleText_len_le [PyData.shown (.str "sum"), PyData.shown (.int x), PyData.shown (.int c), PyData.shown (.tuple (u.map PyData.int))]
  rw [List.map_cons, List.map_cons, List.map_cons, List.map_cons, List.map_nil, List.sum_cons, List.sum_cons, List.sum_cons, List.sum_cons, List.sum_nil] at z
  rw [show ([PyData.shown (.str "sum"), PyData.shown (.int x), PyData.shown (.int c), PyData.shown (.tuple (u.map PyData.int))] : List Str).length = 4 from rfl] at z
  rw [sizeLine_eq]
  omega
theorem RcV.dp {K : PySem.W.Frag} {H : Hp} {p : Int} (hp : 0 < p) (p1 : p ≤ 10007) {m : Nat} {fs : List (List Int)} (f8 : fs.length ≤ 90) {o : Option Int} {r : V} {d : PyData} (h : RcV K H p m fs o r d) : Dp K H r d ∧ d.showable = true ∧ d.hasDict = false ∧ d.depth ≤ 64 ∧ d.shown.length ≤ sizeLine := by
  rcases h with ⟨_, rfl, rfl⟩ | ⟨x, e, b, c, t, rfl, st, rfl⟩ | ⟨x, e, b, u, t, tw, wt, rfl, st, sw, rfl⟩
  · exact ⟨.non, by rw [PyData.showable], by rw [PyData.hasDict], by rw [PyData.depth]; decide, by rw [PyData.shown, sizeLine_eq]; decide⟩
  · obtain ⟨a1, a2, a3, a4⟩ := leaf_tup (ds := [.str "pop", .int (x : Int)]) (fun d m => by
      rcases List.mem_cons.mp m with rfl | m
      · exact leaf_pop
      · rw [List.mem_singleton.mp m]
        exact leaf_lt (by omega) (by omega)) (by show 2 ≤ 8000; omega)
    exact ⟨.tup st (.cons (.str _) (.cons (.int _) .nil)), a1, a2, by omega, Nat.le_trans a4 (by rw [sizeLine_eq]; show 1930 * 2 + 100 ≤ _; omega)⟩
  · have c0 := Int.emod_nonneg (row (fs.getD x []) 0 - comb u (fs.map row) 0) (show p ≠ 0 by omega)
    have c1 := Int.emod_lt_of_pos (row (fs.getD x []) 0 - comb u (fs.map row) 0) hp
    have big : (20000 : Nat) < 2 ^ 1000 := by decide +kernel
    obtain ⟨a1, a2, a3, a4⟩ := sum_show (x := (x : Int)) (c := cst p fs x u) (u := u) (leaf_lt (by omega) (by omega)) (leaf_lt c0 (by unfold cst; omega)) (fun n m => by have := wt.bd n m; omega) (by
      have := wt.len
      rw [List.length_map] at this
      unfold oth lin at this
      rw [List.length_set, List.length_map] at this
      omega)
    exact ⟨.tup st (.cons (.str _) (.cons (.int _) (.cons (.int _) (.cons (.tup sw (dp_ints _)) .nil)))), a1, a2, a3, a4⟩
end Lj
set_option Elab.async false
set_option linter.all false
set_option maxRecDepth 100000
namespace Lj
open PySem PySem.Spec PyProof.Rows L2
/-! ### rows in lists or in tuples -/
def LTa (K : PySem.W.Frag) (H : Hp) (a : Addr) (xs : List V) : Prop := SqL K H a xs ∨ SqT K H a xs
theorem LTa.same {K : PySem.W.Frag} {H H' : Hp} {a : Addr} {xs : List V} (s : Same H H') (h : LTa K H a xs) : LTa K H' a xs := h.imp (fun h => s.seq h) fun h => (Kt.same s).sq h
def rIxLT (K : PySem.W.Frag) : R2 := fun x y H Q => ∃ p xs i v, x = .ref p ∧ y = .int i ∧ LTa K H p xs ∧ atI xs i = some v ∧ Q v H
theorem ix_LT {X : Cx} : IxR X (rIxLT X.K) := by
  intro value slice pins s σ H x y v u Q I rx ry h hs
  obtain ⟨p, xs, i, z, e1, e2, hq | hq, he, q⟩ := h
  · exact ix_list value slice pins s σ H x y v u Q I rx ry ⟨p, xs, i, z, e1, e2, hq, he, q⟩ hs
  · exact ix_tup value slice pins s σ H x y v u Q I rx ry ⟨p, xs, i, z, e1, e2, hq, he, q⟩ hs
theorem LTa.g {K : PySem.W.Frag} {H : Hp} {a : Addr} {xs : List V} (h : LTa K H a xs) : ∃ G : Hp → Prop, SqG K a xs G ∧ ∀ H', Same H H' → G H' := by
  rcases h with h | h
  · exact ⟨fun H => SqL K H a xs, .inl fun H g => g, fun H' s => s.seq h⟩
  · exact ⟨fun H => SqT K H a xs, .inr fun H g => g, fun H' s => (Kt.same s).sq h⟩
def RwsAt (K : PySem.W.Frag) (H : Hp) (v : V) (R : List (List Int)) : Prop := ∃ (c : Addr) (as : List Addr), v = .ref c ∧ LTa K H c (as.map V.ref) ∧ Paired (fun a ns => LTa K H a (ns.map V.int)) as R
theorem RwsAt.same {K : PySem.W.Frag} {H H' : Hp} {v : V} {R : List (List Int)} (s : Same H H') (h : RwsAt K H v R) : RwsAt K H' v R := by
  obtain ⟨c, as, e, q, p⟩ := h
  exact ⟨c, as, e, q.same s, L2.Paired.mapP p fun a ns z => z.same s⟩
/-! ### leading rows: their span and their number -/
def eR (E : List Ent) : List Row := E.map fun e => row e.es
def lwZ (Z : List (Int × Ent)) (c : Nat) : Int := (Z.map fun z => if z.2.c = c then z.1 else 0).sum
theorem lw_none {c : Nat} : ∀ {Z : List (Int × Ent)}, (∀ z ∈ Z, z.2.c ≠ c) → lwZ Z c = 0
  | [], _ => rfl
  | z :: Z, h => by
    unfold lwZ
    rw [List.map_cons, List.sum_cons, if_neg (h z List.mem_cons_self)]
    have := lw_none (Z := Z) (c := c) fun y m => h y (List.mem_cons_of_mem _ m)
    unfold lwZ at this
    rw [this]
    rfl
theorem lw_one : ∀ {Z : List (Int × Ent)}, (Z.map fun z => z.2.c).Nodup → ∀ z ∈ Z, lwZ Z z.2.c = z.1
  | [], _, z, m => absurd m List.not_mem_nil
  | y :: Z, nd, z, m => by
    rw [List.map_cons] at nd
    obtain ⟨n1, n2⟩ := List.nodup_cons.mp nd
    rcases List.mem_cons.mp m with rfl | m
    · have := lw_none (Z := Z) (c := z.2.c) fun x mx e => n1 (List.mem_map.mpr ⟨x, mx, e⟩)
      unfold lwZ at this ⊢
      rw [List.map_cons, List.sum_cons, if_pos rfl, this]
      omega
    · have ih := lw_one n2 z m
      unfold lwZ at ih ⊢
      rw [List.map_cons, List.sum_cons, if_neg (fun e => n1 (List.mem_map.mpr ⟨z, m, e.symm⟩)), ih]
      omega
theorem lw_comb {p : Int} {c : Nat} : ∀ {Z : List (Int × Ent)}, (∀ z ∈ Z, Begins z.2.c (row z.2.es)) → (∀ z ∈ Z, z.2.c < c → p ∣ z.1) → p ∣ comb (Z.map Prod.fst) (eR (Z.map Prod.snd)) c - lwZ Z c
  | [], _, _ => ⟨0, by show (0 : Int) - 0 = p * 0; omega⟩
  | z :: Z, hb, h => by
    obtain ⟨u, hu⟩ := lw_comb (p := p) (c := c) (Z := Z) (fun y m => hb y (List.mem_cons_of_mem _ m)) fun y m => h y (List.mem_cons_of_mem _ m)
    have bz := hb z List.mem_cons_self
    have e1 : comb ((z :: Z).map Prod.fst) (eR ((z :: Z).map Prod.snd)) c = z.1 * row z.2.es c + comb (Z.map Prod.fst) (eR (Z.map Prod.snd)) c := rfl
    have e2 : lwZ (z :: Z) c = (if z.2.c = c then z.1 else 0) + lwZ Z c := rfl
    rw [e1, e2]
    rcases Nat.lt_trichotomy z.2.c c with lt | eq | gt
    · obtain ⟨v, hv⟩ := h z List.mem_cons_self lt
      rw [if_neg (by omega), hv]
      exact ⟨v * row z.2.es c + u, by grind⟩
    · rw [if_pos eq, ← eq, bz.2]
      rw [← eq] at hu
      exact ⟨u, by grind⟩
    · rw [if_neg (by omega), bz.1 c gt]
      exact ⟨u, by grind⟩
theorem zip_of {α β : Type} : ∀ {a : List α} {b : List β}, a.length = b.length → ∃ Z : List (α × β), Z.map Prod.fst = a ∧ Z.map Prod.snd = b
  | [], [], _ => ⟨[], rfl, rfl⟩
  | x :: a, y :: b, h => by
    obtain ⟨Z, h1, h2⟩ := zip_of (a := a) (b := b) (by simpa using h)
    exact ⟨(x, y) :: Z, by rw [List.map_cons, h1], by rw [List.map_cons, h2]⟩
/-- where all before is 0, and no row begins, a combination is 0 -/
theorem lead_free {p : Int} {N : Nat} {E : List Ent} (hb : ∀ e ∈ E, Begins e.c (row e.es)) (nd : (E.map (·.c)).Nodup) {x : Row} (hx : InSp p N (eR E) x) {j : Nat} (hj : j < N) (z : ∀ k, k < j → p ∣ x k) (fr : ∀ e ∈ E, e.c ≠ j) : p ∣ x j := by
  obtain ⟨ws, hw⟩ := hx
  obtain ⟨vs, hl, ev⟩ := comb_pad ws (eR E)
  have hl : vs.length = E.length := by rw [hl]; exact List.length_map _
  obtain ⟨Z, z1, z2⟩ := zip_of hl
  have hw : ∀ i, i < N → p ∣ x i - comb (Z.map Prod.fst) (eR (Z.map Prod.snd)) i := fun i hi => by
    rw [z1, z2, ev]
    exact hw i hi
  have mem : ∀ y ∈ Z, y.2 ∈ E := fun y m => by
    rw [← z2]
    exact List.mem_map.mpr ⟨y, m, rfl⟩
  have hbZ : ∀ y ∈ Z, Begins y.2.c (row y.2.es) := fun y m => hb _ (mem y m)
  have ndZ : (Z.map fun y => y.2.c).Nodup := by
    have : Z.map (fun y => y.2.c) = E.map (·.c) := by
      rw [← z2, List.map_map]
      rfl
    rw [this]
    exact nd
  have key : ∀ n c, c ≤ n → c ≤ j → ∀ y ∈ Z, y.2.c = c → p ∣ y.1 := by
    intro n
    induction n with
    | zero =>
      intro c hc hcj y m e
      obtain ⟨u, hu⟩ := lw_comb (p := p) (c := c) hbZ fun y m h => absurd h (by omega)
      obtain ⟨v, hv⟩ := hw c (by omega)
      by_cases h : c = j
      · exact absurd (e.trans h) (fr _ (mem y m))
      · obtain ⟨t, ht⟩ := z c (by omega)
        rw [← e, lw_one ndZ y m, e] at hu
        exact ⟨t - v - u, by grind⟩
    | succ n ih =>
      intro c hc hcj y m e
      obtain ⟨u, hu⟩ := lw_comb (p := p) (c := c) hbZ fun y m h => ih y.2.c (by omega) (by omega) y m rfl
      obtain ⟨v, hv⟩ := hw c (by omega)
      by_cases h : c = j
      · exact absurd (e.trans h) (fr _ (mem y m))
      · obtain ⟨t, ht⟩ := z c (by omega)
        rw [← e, lw_one ndZ y m, e] at hu
        exact ⟨t - v - u, by grind⟩
  obtain ⟨u, hu⟩ := lw_comb (p := p) (c := j) hbZ fun y m h => key j y.2.c (by omega) (by omega) y m rfl
  obtain ⟨v, hv⟩ := hw j hj
  rw [lw_none fun y m => fr _ (mem y m)] at hu
  exact ⟨u + v, by grind⟩
/-- E is a basis of R -/
structure EchOf (p : Int) (N : Nat) (E : List Ent) (R : List Row) : Prop where
  sp : ∀ x, InSp p N (eR E) x ↔ InSp p N R x
  cnt : E.length = dim p N R
theorem EchOf.nil (p : Int) (N : Nat) : EchOf p N [] [] := ⟨fun x => Iff.rfl, rfl⟩
theorem eR_mem {p : Int} {N : Nat} {E : List Ent} {e : Ent} (m : e ∈ E) : InSp p N (eR E) (row e.es) := InSp.mem (List.mem_map.mpr ⟨e, m, rfl⟩)
/-- ms is what is left of ns -/
def Left (p : Int) (N : Nat) (E : List Ent) (ms ns : List Int) : Prop := ∀ S : List Row, (∀ e ∈ E, InSp p N S (row e.es)) → (InSp p N S (row ms) ↔ InSp p N S (row ns))
theorem Left.refl (p : Int) (N : Nat) (E : List Ent) (ns : List Int) : Left p N E ns ns := fun _ _ => Iff.rfl
theorem Left.step {p : Int} {N : Nat} {E : List Ent} {ms ns ks : List Int} (h : Left p N E ms ns) {e : Ent} (me : e ∈ E) {c : Int} (kr : ∀ i, i < N → row ks i = (row ms i - c * row e.es i) % p) : Left p N E ks ns := fun S hS => by
  rw [← h S hS]
  constructor
  · intro hk
    refine InSp.lin 1 c hk (hS e me) fun i hi => ?_
    rw [kr i hi]
    obtain ⟨u, hu⟩ := emod_dvd p (row ms i - c * row e.es i)
    exact ⟨-u, by grind⟩
  · intro hk
    refine InSp.lin 1 (-c) hk (hS e me) fun i hi => ?_
    rw [kr i hi]
    obtain ⟨u, hu⟩ := emod_dvd p (row ms i - c * row e.es i)
    exact ⟨u, by grind⟩
theorem EchOf.same {p : Int} {N : Nat} {E : List Ent} {R : List Row} {ms ns : List Int} (h : EchOf p N E R) (l : Left p N E ms ns) (z : ∀ k, k < N → row ms k = 0) : EchOf p N E (R ++ [row ns]) := by
  have hy : InSp p N R (row ns) := (h.sp _).mp ((l _ fun e m => eR_mem m).mp (InSp.zero fun i hi => by rw [z i hi]; exact Int.dvd_zero p))
  refine ⟨fun x => ⟨fun hx => ((h.sp x).mp hx).mono fun r m => List.mem_append_left _ m, fun hx => (h.sp x).mpr (hx.into fun r m => ?_)⟩, ?_⟩
  · rcases List.mem_append.mp m with m | m
    · exact InSp.mem m
    · rw [List.mem_singleton.mp m]
      exact hy
  · rw [dim_back, if_pos hy, h.cnt]
    rfl
theorem EchOf.add {p : Int} {N : Nat} {E : List Ent} {R : List Row} {ms ns : List Int} (hp : 1 < p) (h : EchOf p N E R) (hb : ∀ e ∈ E, Begins e.c (row e.es)) (nd : (E.map (·.c)).Nodup) (l : Left p N E ms ns) {j : Nat} (hj : j < N) (z : ∀ k, k < j → row ms k = 0) (fr : ∀ e ∈ E, e.c ≠ j) {r : Int} (hr : r * row ms j % p = 1)
    {e : Ent} (kr : ∀ i, i < N → row e.es i = r * row ms i % p) : EchOf p N (E ++ [e]) (R ++ [row ns]) := by
  have hny : ¬ InSp p N R (row ns) := fun hx => by
    have h1 := (l _ fun e m => eR_mem m).mpr ((h.sp _).mpr hx)
    obtain ⟨u, hu⟩ := lead_free hb nd h1 hj (fun k hk => by rw [z k hk]; exact Int.dvd_zero p) fr
    rw [hu] at hr
    have : r * (p * u) = p * (r * u) := by grind
    rw [this, Int.mul_emod_right] at hr
    omega
  have eb : eR (E ++ [e]) = eR E ++ [row e.es] := by
    unfold eR
    rw [List.map_append]
    rfl
  refine ⟨fun x => ?_, ?_⟩
  · rw [eb]
    constructor
    · refine insp_app h.sp ?_
      have h1 : InSp p N (R ++ [row ns]) (row ms) := (l _ fun e m => ((h.sp _).mp (eR_mem m)).mono fun z mz => List.mem_append_left _ mz).mpr (InSp.mem (List.mem_append_right _ List.mem_cons_self))
      refine InSp.lin r 0 h1 h1 fun i hi => ?_
      rw [kr i hi]
      obtain ⟨u, hu⟩ := emod_dvd p (r * row ms i)
      exact ⟨u, by grind⟩
    · refine insp_app (fun x => (h.sp x).symm) ?_
      have h1 : InSp p N (eR E ++ [row e.es]) (row e.es) := InSp.mem (List.mem_append_right _ List.mem_cons_self)
      refine (l _ fun e m => InSp.mem (List.mem_append_left _ (List.mem_map.mpr ⟨e, m, rfl⟩))).mp (InSp.lin (row ms j) 0 h1 h1 fun i hi => ?_)
      rw [kr i hi]
      obtain ⟨u, hu⟩ := emod_dvd p (r * row ms i)
      have e1 : r * row ms j = 1 + p * (r * row ms j / p) := by
        have := Int.emod_def (r * row ms j) p
        omega
      generalize r * row ms j / p = v at e1
      generalize row ms i = a at *
      generalize row ms j = d at *
      exact ⟨-(d * u) - v * a, by grind⟩
  · rw [List.length_append, dim_back, if_neg hny, h.cnt]
    rfl
/-! ### the order of rows does not matter -/
end Lj
set_option Elab.async false
set_option linter.all false
set_option maxRecDepth 100000
namespace Lj
/-! ### independent rows -/
/-- the rows are independent: no combination of them is 0 but the empty one -/
def Ind (p : Int) (L : Nat) (R : List Row) : Prop := ∀ ws : List Int, ws.length = R.length → (∀ i, i < L → p ∣ comb ws R i) → ∀ w ∈ ws, p ∣ w
section
variable {p : Int} {L : Nat}
theorem Ind.nil : Ind p L [] := fun ws h _ w m => by
  rw [List.length_eq_zero_iff.mp h] at m
  exact absurd m List.not_mem_nil
theorem comb_app : ∀ (ws vs : List Int) (R S : List Row) (i : Nat), ws.length = R.length → comb (ws ++ vs) (R ++ S) i = comb ws R i + comb vs S i
  | [], vs, [], S, i, _ => by
    show comb vs S i = 0 + comb vs S i
    omega
  | w :: ws, vs, r :: R, S, i, h => by
    show w * r i + comb (ws ++ vs) (R ++ S) i = w * r i + comb ws R i + comb vs S i
    rw [comb_app ws vs R S i (by simpa using h)]
    omega
theorem snoc_of {α : Type} {n : Nat} {l : List α} (h : l.length = n + 1) : ∃ r a, l = r ++ [a] ∧ r.length = n := by
  refine ⟨l.dropLast, l.getLast (fun e => by rw [e] at h; simp at h), (List.dropLast_concat_getLast _).symm, ?_⟩
  rw [List.length_dropLast]
  omega
theorem Ind.snoc (hp : PInv p) {R : List Row} {r : Row} : Ind p L (R ++ [r]) ↔ Ind p L R ∧ ¬ InSp p L R r := by
  constructor
  · intro h
    refine ⟨fun ws hl hz w m => ?_, fun ⟨ws, hw⟩ => ?_⟩
    · refine h (ws ++ [0]) (by rw [List.length_append, List.length_append, hl]; rfl) (fun i hi => ?_) w (List.mem_append_left _ m)
      rw [comb_app ws [0] R [r] i hl]
      show p ∣ comb ws R i + (0 * r i + 0)
      rw [Int.zero_mul, Int.add_zero, Int.add_zero]
      exact hz i hi
    · obtain ⟨vs, hl, e⟩ := comb_pad ws R
      have := h (vs ++ [-1]) (by rw [List.length_append, List.length_append, hl]; rfl) (fun i hi => by
        rw [comb_app vs [-1] R [r] i hl, e]
        obtain ⟨u, hu⟩ := hw i hi
        show p ∣ comb ws R i + ((-1) * r i + 0)
        exact ⟨-u, by grind⟩) (-1) (List.mem_append_right _ List.mem_cons_self)
      have h1 : p ∣ 1 := by
        obtain ⟨u, hu⟩ := this
        exact ⟨-u, by grind⟩
      have := Int.le_of_dvd (by decide) h1
      have := hp.1
      omega
  · rintro ⟨h1, h2⟩ ws hl hz w m
    rw [List.length_append] at hl
    obtain ⟨vs, a, rfl, hv⟩ := snoc_of hl
    have ha : p ∣ a := Classical.byContradiction fun na => by
      obtain ⟨b, k, hk⟩ := hp.2 a na
      refine h2 ⟨scal (-b) vs, fun i hi => ?_⟩
      obtain ⟨u, hu⟩ := hz i hi
      rw [comb_app vs [a] R [r] i hv] at hu
      have hu : comb vs R i + (a * r i + 0) = p * u := hu
      rw [comb_scal]
      exact ⟨b * u - k * r i, by grind⟩
    have hz2 : ∀ i, i < L → p ∣ comb vs R i := fun i hi => by
      obtain ⟨u, hu⟩ := hz i hi
      rw [comb_app vs [a] R [r] i hv] at hu
      have hu : comb vs R i + (a * r i + 0) = p * u := hu
      obtain ⟨k, hk⟩ := ha
      exact ⟨u - k * r i, by grind⟩
    rcases List.mem_append.mp m with m | m
    · exact h1 vs hv hz2 w m
    · rw [List.mem_singleton.mp m]
      exact ha
open Classical in
theorem dim_le : ∀ (R A : List Row), dimA p L A R ≤ R.length
  | [], _ => Nat.le_refl _
  | r :: R, A => by
    rw [dimA, List.length_cons]
    have := dim_le R (r :: A)
    split <;> omega
open Classical in
theorem ind_dim (hp : PInv p) : ∀ (n : Nat) (R : List Row), R.length = n → (Ind p L R ↔ dim p L R = R.length)
  | 0, R, h => by
    rw [List.length_eq_zero_iff.mp h]
    exact ⟨fun _ => rfl, fun _ => Ind.nil⟩
  | n + 1, R, h => by
    obtain ⟨S, r, rfl, hS⟩ := snoc_of h
    rw [Ind.snoc hp, ind_dim hp n S hS, dim_back, List.length_append]
    have := dim_le (p := p) (L := L) S []
    have d : dim p L S ≤ S.length := this
    constructor
    · rintro ⟨h1, h2⟩
      rw [if_neg h2, h1]
      rfl
    · intro h1
      by_cases c : InSp p L S r
      · rw [if_pos c] at h1
        have : S.length + [r].length = S.length + 1 := rfl
        omega
      · rw [if_neg c] at h1
        have : S.length + [r].length = S.length + 1 := rfl
        exact ⟨by omega, c⟩
theorem Ind.dim (hp : PInv p) {R : List Row} : Ind p L R ↔ dim p L R = R.length := ind_dim hp _ R rfl
/-! ### leading rows are independent -/
/-! ### a vector that tells a row from the span of others -/
theorem dot_add (n : Nat) (e v u : Nat → Int) (c : Int) : dot n e (fun k => v k + c * u k) = dot n e v + c * dot n e u := by
  unfold dot
  have : sumF (fun k => e k * (v k + c * u k)) n = sumF (fun k => 1 * (e k * v k) + c * (e k * u k)) n := sumF_cong fun k _ => by grind
  rw [this, sumF_lin]
  omega
theorem dot_left (n : Nat) (e f v : Nat → Int) (c : Int) : dot n (fun k => e k - c * f k) v = dot n e v - c * dot n f v := by
  unfold dot
  have : sumF (fun k => (e k - c * f k) * v k) n = sumF (fun k => 1 * (e k * v k) + (-c) * (f k * v k)) n := sumF_cong fun k _ => by grind
  rw [this, sumF_lin]
  grind
theorem dot_scal (n : Nat) (e v : Nat → Int) (c : Int) : dot n e (fun k => c * v k) = c * dot n e v := by
  have := dot_add n e (fun _ => 0) v c
  have z : dot n e (fun _ => 0) = 0 := sumF_zero fun k _ => Int.mul_zero _
  rw [z] at this
  rw [Int.zero_add] at this
  rw [← this]
  unfold dot
  exact sumF_cong fun k _ => by
    show e k * (c * v k) = e k * (0 + c * v k)
    rw [Int.zero_add]
def oneAt (i : Nat) : Nat → Int := fun k => if k = i then 1 else 0
theorem dot_oneAt {n i : Nat} (e : Nat → Int) (h : i < n) : dot n e (oneAt i) = e i := by
  unfold dot
  obtain ⟨m, rfl⟩ : ∃ m, n = i + 1 + m := ⟨n - (i + 1), by omega⟩
  rw [sumF_add, sumF, sumF_zero (n := i) fun k hk => by unfold oneAt; rw [if_neg (by omega), Int.mul_zero], sumF_zero (n := m) fun k hk => by unfold oneAt; rw [if_neg (by omega), Int.mul_zero]]
  unfold oneAt
  rw [if_pos rfl]
  omega
theorem sep (hp : PInv p) : ∀ {R : List Row} {x : Row}, ¬ InSp p L R x → ∃ v : Nat → Int, (∀ r ∈ R, p ∣ dot L r v) ∧ p ∣ dot L x v - 1
  | [], x, h => by
    have : ∃ i, i < L ∧ ¬ p ∣ x i := Classical.byContradiction fun n => h (InSp.zero fun i hi => Classical.byContradiction fun z => n ⟨i, hi, z⟩)
    obtain ⟨i, hi, hx⟩ := this
    obtain ⟨b, k, e⟩ := hp.2 _ hx
    refine ⟨fun k => b * oneAt i k, (fun r m => absurd m List.not_mem_nil), ?_⟩
    rw [dot_scal, dot_oneAt x hi]
    exact ⟨k, by grind⟩
  | r :: R, x, h => by
    by_cases c : InSp p L R r
    · have h' : ¬ InSp p L R x := fun z => h (z.mono fun y m => List.mem_cons_of_mem _ m)
      obtain ⟨v, h1, h2⟩ := sep hp h'
      refine ⟨v, fun y m => ?_, h2⟩
      rcases List.mem_cons.mp m with rfl | m
      · -- it is a combination of the others
        obtain ⟨ws, hw⟩ := c
        have key : ∀ (ws : List Int) (R : List Row), (∀ r ∈ R, p ∣ dot L r v) → p ∣ dot L (comb ws R) v := by
          intro ws
          induction ws with
          | nil =>
            intro R _
            have : dot L (comb [] R) v = 0 := sumF_zero fun k _ => by rw [comb_nilL, Int.zero_mul]
            rw [this]
            exact Int.dvd_zero p
          | cons w ws ih =>
            intro R hR
            cases R with
            | nil =>
              have : dot L (comb (w :: ws) []) v = 0 := sumF_zero fun k _ => by rw [comb_nil, Int.zero_mul]
              rw [this]
              exact Int.dvd_zero p
            | cons r R =>
              have e : dot L (comb (w :: ws) (r :: R)) v = 1 * dot L (comb ws R) v + w * dot L r v := by
                unfold dot
                rw [← sumF_lin]
                exact sumF_cong fun k _ => by
                  show (w * r k + comb ws R k) * v k = _
                  grind
              rw [e]
              obtain ⟨a, ha⟩ := ih R fun y m => hR y (List.mem_cons_of_mem _ m)
              obtain ⟨b, hb⟩ := hR r List.mem_cons_self
              exact ⟨a + w * b, by grind⟩
        obtain ⟨a, ha⟩ := key ws R h1
        obtain ⟨b, hb⟩ := dot_lin (p := p) (a := 1) (b := 0) (n := L) (e := y) (f := comb ws R) (g := comb ws R) (v := v) fun k hk => by
          obtain ⟨t, ht⟩ := hw k hk
          exact ⟨t, by grind⟩
        exact ⟨a + b, by grind⟩
      · exact h1 y m
    · obtain ⟨v2, h1, h2⟩ := sep hp c
      have h' : ¬ InSp p L R (fun k => x k - dot L x v2 * r k) := fun z => h (InSp.lin 1 (dot L x v2) (z.mono fun y m => List.mem_cons_of_mem _ m) (InSp.mem (r := r) List.mem_cons_self) fun i _ => ⟨0, by grind⟩)
      obtain ⟨v3, h3, h4⟩ := sep hp h'
      refine ⟨fun k => v3 k + (-(dot L r v3)) * v2 k, fun y m => ?_, ?_⟩
      · rw [dot_add]
        rcases List.mem_cons.mp m with rfl | m
        · obtain ⟨a, ha⟩ := h2
          exact ⟨-(dot L y v3) * a, by grind⟩
        · obtain ⟨a, ha⟩ := h1 y m
          obtain ⟨b, hb⟩ := h3 y m
          exact ⟨b - dot L r v3 * a, by grind⟩
      · rw [dot_add]
        rw [dot_left] at h4
        obtain ⟨a, ha⟩ := h4
        exact ⟨a, by grind⟩
end
end Lj
set_option Elab.async false
set_option linter.all false
set_option maxRecDepth 100000
namespace Lj
open PySem PySem.Spec PyProof.Rows L2
/-! ### sums go through steps, as combinations of lists -/
theorem getD_map {D : List (List Int)} (f : List Int → List Int) {i : Nat} (h : i < D.length) : (D.map f).getD i [] = f (D.getD i []) := by
  rw [List.getD_eq_getElem?_getD, List.getD_eq_getElem?_getD, List.getElem?_map, List.getElem?_eq_getElem h]
  rfl
theorem comb_rows (ws : List Int) (D : List (List Int)) (hl : ws.length = D.length) (j : Nat) : comb ws (D.map row) j = sumF (fun i => ws.getD i 0 * gN (D.getD i []) j) D.length := by
  rw [comb_sum ws (D.map row) j (by rw [List.length_map]; exact hl), List.length_map]
  refine sumF_cong fun i hi => ?_
  rw [List.getD_eq_getElem?_getD (l := D.map row), List.getElem?_map, List.getElem?_eq_getElem hi, List.getD_eq_getElem?_getD (l := D), List.getElem?_eq_getElem hi, Int.mul_comm]
  rfl
theorem act_lin {p n : Int} {N : Nat} (hN : (N : Int) = n + 1) {F : List Tr} (gF : Goods p n F) {D : List (List Int)} (hD : ∀ d ∈ D, d.length = N) {ws : List Int} (hl : ws.length = D.length) {X : List Int} (hX : X.length = N)
    (h : ∀ j, j < N → p ∣ row X j - comb ws (D.map row) j) : ∀ j, j < N → p ∣ row (act p F X) j - comb ws ((D.map (act p F)).map row) j := fun j hj => by
  have k := act_comb hN (m := D.length) (c := fun i => ws.getD i 0) (E := F) (X := X) (Y := fun i => D.getD i []) gF hX (fun i hi => by
    show (D.getD i []).length = N
    rw [List.getD_eq_getElem?_getD, List.getElem?_eq_getElem hi]
    exact hD _ (List.getElem_mem hi)) (fun j hj => by
    have := h j hj
    rw [comb_rows ws D hl] at this
    exact this) j hj
  rw [comb_rows ws (D.map (act p F)) (by rw [List.length_map]; exact hl), List.length_map]
  have e : sumF (fun i => ws.getD i 0 * gN ((D.map (act p F)).getD i []) j) D.length = sumF (fun i => ws.getD i 0 * gN (act p F (D.getD i [])) j) D.length := sumF_cong fun i hi => by rw [getD_map (act p F) hi]
  rw [e]
  exact k
/-- a row of N numbers with these places -/
def ofRow (N : Nat) (v : Row) : List Int := (List.range N).map v
theorem ofRow_len (N : Nat) (v : Row) : (ofRow N v).length = N := by rw [ofRow, List.length_map, List.length_range]
theorem ofRow_row {N : Nat} {v : Row} {j : Nat} (h : j < N) : row (ofRow N v) j = v j := by
  refine row_get ?_
  rw [ofRow, List.getElem?_map, List.getElem?_range h]
  rfl
section
variable {p n : Int} {N : Nat}
theorem act_cong (hN : (N : Int) = n + 1) {F : List Tr} (gF : Goods p n F) {X Y : List Int} (hX : X.length = N) (hY : Y.length = N) (h : ∀ j, j < N → p ∣ row X j - row Y j) : ∀ j, j < N → p ∣ row (act p F X) j - row (act p F Y) j := fun j hj => by
  have k := act_lin hN gF (D := [Y]) (ws := [1]) (fun d m => by rw [List.mem_singleton.mp m]; exact hY) rfl hX (fun j hj => by
    obtain ⟨u, hu⟩ := h j hj
    refine ⟨u, ?_⟩
    show row X j - (1 * row Y j + 0) = _
    omega) j hj
  obtain ⟨u, hu⟩ := k
  refine ⟨u, ?_⟩
  have hu : row (act p F X) j - (1 * row (act p F Y) j + 0) = p * u := hu
  omega
theorem act_zero (hN : (N : Int) = n + 1) {F : List Tr} (gF : Goods p n F) {X : List Int} (hX : X.length = N) (h : ∀ j, j < N → p ∣ row X j) : ∀ j, j < N → p ∣ row (act p F X) j := fun j hj => by
  have k := act_lin hN gF (D := []) (ws := []) (fun d m => absurd m List.not_mem_nil) rfl hX (fun j hj => by
    show p ∣ row X j - 0
    rw [Int.sub_zero]
    exact h j hj) j hj
  have k : p ∣ row (act p F X) j - 0 := k
  rwa [Int.sub_zero] at k
theorem act_span (hN : (N : Int) = n + 1) {F : List Tr} (gF : Goods p n F) {D : List (List Int)} (hD : ∀ d ∈ D, d.length = N) {X : List Int} (hX : X.length = N) (h : InSp p N (D.map row) (row X)) : InSp p N ((D.map (act p F)).map row) (row (act p F X)) := by
  obtain ⟨ws, hw⟩ := h
  obtain ⟨vs, hl, e⟩ := comb_pad ws (D.map row)
  rw [List.length_map] at hl
  exact ⟨vs, act_lin hN gF hD hl hX fun j hj => by rw [e]; exact hw j hj⟩
/-- what is in the span and goes to 0 is 0, if no direction is lost -/
theorem act_kill (hN : (N : Int) = n + 1) {F : List Tr} (gF : Goods p n F) {D : List (List Int)} (hD : ∀ d ∈ D, d.length = N) (h : Ind p N ((D.map (act p F)).map row)) {X : List Int} (hX : X.length = N) (hs : InSp p N (D.map row) (row X)) (hz : ∀ j, j < N → p ∣ row (act p F X) j) : ∀ j, j < N → p ∣ row X j := by
  obtain ⟨ws, hw⟩ := hs
  obtain ⟨vs, hl, e⟩ := comb_pad ws (D.map row)
  rw [List.length_map] at hl
  have hw : ∀ j, j < N → p ∣ row X j - comb vs (D.map row) j := fun j hj => by rw [e]; exact hw j hj
  have k := act_lin hN gF hD hl hX hw
  have zs := h vs (by rw [List.length_map, List.length_map]; exact hl) fun j hj => by
    obtain ⟨a, ha⟩ := k j hj
    obtain ⟨b, hb⟩ := hz j hj
    exact ⟨b - a, by grind⟩
  have zero : ∀ (vs : List Int) (R : List Row), (∀ w ∈ vs, p ∣ w) → ∀ j, p ∣ comb vs R j := by
    intro vs
    induction vs with
    | nil =>
      intro R _ j
      rw [comb_nilL]
      exact Int.dvd_zero p
    | cons v vs ih =>
      intro R hv j
      cases R with
      | nil =>
        rw [comb_nil]
        exact Int.dvd_zero p
      | cons r R =>
        obtain ⟨a, ha⟩ := hv v List.mem_cons_self
        obtain ⟨b, hb⟩ := ih R (fun w m => hv w (List.mem_cons_of_mem _ m)) j
        exact ⟨a * r j + b, by
          show v * r j + comb vs R j = _
          grind⟩
  intro j hj
  obtain ⟨a, ha⟩ := hw j hj
  obtain ⟨b, hb⟩ := zero vs (D.map row) zs j
  exact ⟨a + b, by grind⟩
/-- independent rows stay so if nothing of a kind that they all are of goes to 0 -/
theorem ind_act (hN : (N : Int) = n + 1) {F : List Tr} (gF : Goods p n F) {D : List (List Int)} (hD : ∀ d ∈ D, d.length = N) (h : Ind p N (D.map row)) (inj : ∀ X : List Int, X.length = N → InSp p N (D.map row) (row X) → (∀ j, j < N → p ∣ row (act p F X) j) → ∀ j, j < N → p ∣ row X j) : Ind p N ((D.map (act p F)).map row) := fun ws hl hz => by
  rw [List.length_map, List.length_map] at hl
  refine h ws (by rw [List.length_map]; exact hl) fun j hj => ?_
  have hX := ofRow_len N (comb ws (D.map row))
  have hw : ∀ j, j < N → p ∣ row (ofRow N (comb ws (D.map row))) j - comb ws (D.map row) j := fun j hj => by
    rw [ofRow_row hj]
    exact ⟨0, by grind⟩
  have k := act_lin hN gF hD hl hX hw
  have := inj _ hX ⟨ws, hw⟩ (fun j hj => by
    obtain ⟨a, ha⟩ := k j hj
    obtain ⟨b, hb⟩ := hz j hj
    exact ⟨a + b, by grind⟩) j hj
  rw [ofRow_row hj] at this
  exact this
end
end Lj
set_option Elab.async false
set_option linter.all false
set_option maxRecDepth 100000
namespace Lj
open PySem PySem.Spec PyProof.Rows L2
/-! ### how two runs differ -/
def uRow (n : Nat) (u : Nat → Int) : List Int := 0 :: (List.range n).map u
def uIn (n k : Nat) (u : Nat → Int) : List Int := (List.range k).map fun j => u (n + j)
/-- the difference of the registers behind E, for these differences of the unknowns -/
def lrow (p : Int) (n k : Nat) (E : List Tr) (u : Nat → Int) : List Int := (rns p (uIn n k u) ⟨uRow n u, 0, []⟩ E).row
section
variable {p : Int} {n k : Nat}
theorem lrow_len {E : List Tr} (g : Goods p n E) (u : Nat → Int) : (lrow p n k E u).length = n + 1 := by
  unfold lrow
  rw [rns_len g, uRow, List.length_cons, List.length_map, List.length_range]
theorem lrow_tk {E : List Tr} (g : Goods p n E) (u : Nat → Int) : ((rns p (uIn n k u) ⟨uRow n u, 0, []⟩ E).tk : Int) = rc E := by
  rw [rns_tk g]
  show (0 : Int) + rc E = rc E
  omega
/-- place 0 stays as it is -/
theorem stp_zero {is : List Int} {s : RS} {w : Str} {as : List Int} (g : GoodOp p n w as) (h : s.row.length = n + 1) : gN (stp p is s (.op w as)).row 0 = gN s.row 0 := by
  have sv0 : ∀ (r : List Int) (x v : Int), 0 ≤ x → x < n → r.length = n + 1 → gN (sv r (x + 1) v) 0 = gN r 0 := fun r x v x0 x1 hr => by
    rw [gN_sv (by omega), if_neg (by omega)]
  rcases g with ⟨rfl | rfl, x, c, rfl, x0, x1, _⟩ | ⟨rfl | rfl, x, rfl, x0, x1⟩ | ⟨rfl | rfl, x, y, rfl, x0, x1, y0, y1, _⟩ | ⟨rfl, x, y, c, rfl, x0, x1, y0, y1, _⟩
  · rw [stp_else (by decide) (by decide), ex_set]
    exact sv0 _ _ _ x0 x1 h
  · rw [stp_else (by decide) (by decide), ex_scale]
    exact sv0 _ _ _ x0 x1 h
  · rw [stp_read]
    exact sv0 _ _ _ x0 x1 h
  · rw [stp_write]
  · rw [stp_else (by decide) (by decide), ex_copy]
    exact sv0 _ _ _ x0 x1 h
  · rw [stp_else (by decide) (by decide), ex_swap]
    show gN (sv (sv s.row (x + 1) _) (y + 1) _) 0 = _
    rw [sv0 _ _ _ y0 y1 (by rw [sv_len]; exact h), sv0 _ _ _ x0 x1 h]
  · rw [stp_else (by decide) (by decide), ex_add]
    exact sv0 _ _ _ x0 x1 h
theorem rns_zero {is : List Int} : ∀ {E : List Tr} {s : RS}, Goods p n E → s.row.length = n + 1 → gN (rns p is s E).row 0 = gN s.row 0
  | [], _, _, _ => rfl
  | t :: E, s, g, h => by
    obtain ⟨w, as, rfl, go⟩ := g t List.mem_cons_self
    show gN (rns p is (stp p is s (.op w as)) E).row 0 = _
    rw [rns_zero (fun u m => g u (List.mem_cons_of_mem _ m)) (by rw [stp_len go]; exact h), stp_zero go h]
theorem lrow_zero {E : List Tr} (g : Goods p n E) (u : Nat → Int) : row (lrow p n k E u) 0 = 0 := by
  show gN _ 0 = 0
  unfold lrow
  rw [rns_zero g (by rw [uRow, List.length_cons, List.length_map, List.length_range])]
  rfl
theorem gN_map {f : Nat → Int} {m j : Nat} (h : j < m) : gN ((List.range m).map f) j = f j := by
  unfold gN
  rw [List.getD_eq_getElem?_getD, List.getElem?_map, List.getElem?_range h]
  rfl
theorem lin_tail {fs : List (List Int)} {x : Nat} (h : x < fs.length) : (lin fs).getD x [] = (fs.getD x []).tail := by
  rw [List.getD_eq_getElem?_getD, List.getD_eq_getElem?_getD, lin, List.getElem?_map, List.getElem?_eq_getElem h]
  rfl
/-- register x behind E, as its form says -/
theorem lrow_form {E : List Tr} {fs : List (List Int)} (h : FormsOf p (n + 1) E fs) (hk : rc E ≤ k) {x : Nat} (hx : x < n) (u : Nat → Int) :
    p ∣ row (lrow p n k E u) (x + 1) - dot (n + (rc E).toNat) (row ((lin fs).getD x [])) u := by
  have fl : fs.length = n := by have := h.1; omega
  have ex : fs[x]? = some fs[x] := List.getElem?_eq_getElem (by omega)
  obtain ⟨g, cs, e, gl, gi, ci, cl, ad⟩ := h.2 x _ ex
  have a := ad (uIn n k u) ⟨uRow n u, 0, []⟩ (by rw [uRow, List.length_cons, List.length_map, List.length_range])
  rw [dot_un _ (by omega)] at a
  have l3 := lin_tail (fs := fs) (x := x) (by omega)
  have el : (lin fs).getD x [] = g.tail ++ cs := by
    rw [l3, List.getD_eq_getElem?_getD, ex]
    show (fs[x]).tail = _
    rw [e]
    cases g with
    | nil => simp at gl
    | cons a g => rfl
  have hr : (rc E).toNat = cs.length := by omega
  rw [el, hr]
  have e2 : dot (n + cs.length) (row (g.tail ++ cs)) u = sumF (fun i => gN g (i + 1) * u i) n + sumF (fun j => gN cs j * u (n + j)) cs.length := by
    unfold dot
    rw [sumF_add]
    congr 1
    · refine sumF_cong fun i hi => ?_
      congr 1
      show gN (g.tail ++ cs) i = _
      unfold gN
      rw [List.getD_eq_getElem?_getD, List.getElem?_append_left (by rw [List.length_tail]; omega), List.getElem?_tail, List.getD_eq_getElem?_getD]
    · refine sumF_cong fun j hj => ?_
      congr 1
      show gN (g.tail ++ cs) (n + j) = _
      unfold gN
      rw [List.getD_eq_getElem?_getD, List.getElem?_append_right (by rw [List.length_tail]; omega), List.length_tail, gl, show n + j - (n + 1 - 1) = j by omega, List.getD_eq_getElem?_getD]
  have e3 : dot (n + 1) (gN (uRow n u)) (gN g) = sumF (fun i => gN g (i + 1) * u i) n := by
    unfold dot
    rw [sumF_head]
    have : gN (uRow n u) 0 = 0 := rfl
    rw [this, Int.zero_mul, Int.zero_add]
    refine sumF_cong fun i hi => ?_
    have : gN (uRow n u) (i + 1) = gN ((List.range n).map u) i := rfl
    rw [this, gN_map hi, Int.mul_comm]
  have e4 : sumF (fun j => gN cs j * gN (uIn n k u) ((⟨uRow n u, 0, []⟩ : RS).tk + j)) cs.length = sumF (fun j => gN cs j * u (n + j)) cs.length := sumF_cong fun j hj => by
    show gN cs j * gN (uIn n k u) (0 + j) = _
    rw [Nat.zero_add, uIn, gN_map (by omega)]
  rw [e3, e4] at a
  rw [e2]
  exact a
/-- v is the difference of two runs -/
def InW (p : Int) (n k : Nat) (E : List Tr) (v : Row) : Prop := ∃ u : Nat → Int, ∀ j, j < n + 1 → p ∣ v j - row (lrow p n k E u) j
theorem lrow_lin {E : List Tr} {fs : List (List Int)} (g : Goods p n E) (h : FormsOf p (n + 1) E fs) (hk : rc E ≤ k) (a : Int) (u v : Nat → Int) : ∀ j, j < n + 1 → p ∣ row (lrow p n k E fun i => u i + a * v i) j - (row (lrow p n k E u) j + a * row (lrow p n k E v) j) := fun j hj => by
  cases j with
  | zero =>
    rw [lrow_zero g, lrow_zero g, lrow_zero g]
    exact ⟨0, by grind⟩
  | succ x =>
    obtain ⟨a1, h1⟩ := lrow_form h hk (x := x) (by omega) fun i => u i + a * v i
    obtain ⟨a2, h2⟩ := lrow_form h hk (x := x) (by omega) u
    obtain ⟨a3, h3⟩ := lrow_form h hk (x := x) (by omega) v
    rw [dot_add] at h1
    exact ⟨a1 - a2 - a * a3, by grind⟩
theorem lrow_cong {E : List Tr} {fs : List (List Int)} (g : Goods p n E) (h : FormsOf p (n + 1) E fs) (hk : rc E ≤ k) {u v : Nat → Int} (e : ∀ i, i < n + (rc E).toNat → u i = v i) : ∀ j, j < n + 1 → p ∣ row (lrow p n k E u) j - row (lrow p n k E v) j := fun j hj => by
  cases j with
  | zero =>
    rw [lrow_zero g, lrow_zero g]
    exact ⟨0, by grind⟩
  | succ x =>
    obtain ⟨a2, h2⟩ := lrow_form h hk (x := x) (by omega) u
    obtain ⟨a3, h3⟩ := lrow_form h hk (x := x) (by omega) v
    have : dot (n + (rc E).toNat) (row ((lin fs).getD x [])) u = dot (n + (rc E).toNat) (row ((lin fs).getD x [])) v := sumF_cong fun i hi => by rw [e i hi]
    rw [this] at h2
    exact ⟨a2 - a3, by grind⟩
theorem InW.zero {E : List Tr} {fs : List (List Int)} (g : Goods p n E) (h : FormsOf p (n + 1) E fs) (hk : rc E ≤ k) {v : Row} (hv : ∀ j, v j = 0) : InW p n k E v := ⟨fun _ => 0, fun j hj => by
  rw [hv]
  have := lrow_lin g h hk (-1) (fun _ => 0) (fun _ => 0) j hj
  have e : (fun i : Nat => (0 : Int) + (-1) * 0) = fun _ => 0 := rfl
  rw [e] at this
  obtain ⟨a, ha⟩ := this
  exact ⟨-a, by grind⟩⟩
theorem InW.comb {E : List Tr} {fs : List (List Int)} (g : Goods p n E) (h : FormsOf p (n + 1) E fs) (hk : rc E ≤ k) : ∀ (ws : List Int) (R : List Row), (∀ r ∈ R, InW p n k E r) → InW p n k E (Lj.comb ws R)
  | [], R, _ => InW.zero g h hk fun j => comb_nilL R j
  | w :: ws, [], _ => InW.zero g h hk fun j => comb_nil _ j
  | w :: ws, r :: R, hR => by
    obtain ⟨u, hu⟩ := InW.comb g h hk ws R fun y m => hR y (List.mem_cons_of_mem _ m)
    obtain ⟨v, hv⟩ := hR r List.mem_cons_self
    refine ⟨fun i => u i + w * v i, fun j hj => ?_⟩
    obtain ⟨a, ha⟩ := lrow_lin g h hk w u v j hj
    obtain ⟨b, hb⟩ := hu j hj
    obtain ⟨c, hc⟩ := hv j hj
    refine ⟨b + w * c - a, ?_⟩
    show w * r j + Lj.comb ws R j - _ = _
    grind
theorem InW.span {E : List Tr} {fs : List (List Int)} (g : Goods p n E) (h : FormsOf p (n + 1) E fs) (hk : rc E ≤ k) {R : List Row} (hR : ∀ r ∈ R, InW p n k E r) {v : Row} (hv : InSp p (n + 1) R v) : InW p n k E v := by
  obtain ⟨ws, hw⟩ := hv
  obtain ⟨u, hu⟩ := InW.comb g h hk ws R hR
  refine ⟨u, fun j hj => ?_⟩
  obtain ⟨a, ha⟩ := hw j hj
  obtain ⟨b, hb⟩ := hu j hj
  exact ⟨a + b, by grind⟩
/-- directions that span the differences of all runs, independent -/
structure Dirs (p : Int) (n k : Nat) (E : List Tr) (D : List (List Int)) : Prop where
  ok : ∀ d ∈ D, d.length = n + 1 ∧ In p d
  ind : Ind p (n + 1) (D.map row)
  sub : ∀ d ∈ D, InW p n k E (row d)
  all : ∀ u, InSp p (n + 1) (D.map row) (row (lrow p n k E u))
theorem Dirs.len {E : List Tr} {D : List (List Int)} (h : Dirs p n k E D) : ∀ d ∈ D, d.length = n + 1 := fun d m => (h.ok d m).1
theorem forms_ex (p0 : 2 ≤ p) : ∀ {E : List Tr}, Goods p n E → ∃ fs, FormsOf p (n + 1) E fs := by
  have key : ∀ {E : List Tr}, Goods p n E → ∃ R C, FmI p (n + 1) E R C := by
    intro E
    induction E with
    | nil => exact fun _ => ⟨_, _, FmI.start p0⟩
    | cons t E ih =>
      intro g
      obtain ⟨R, C, fm⟩ := ih fun u m => g u (List.mem_cons_of_mem _ m)
      obtain ⟨w, as, rfl, go⟩ := g t List.mem_cons_self
      by_cases hr : w = "read"
      · subst hr
        obtain ⟨x, rfl, x0, x1⟩ : ∃ x, as = [x] ∧ 0 ≤ x ∧ x < n := by
          rcases go with ⟨h | h, _⟩ | ⟨_, x, e, x0, x1⟩ | ⟨h | h, _⟩ | ⟨h, _⟩
          · exact absurd h (by decide)
          · exact absurd h (by decide)
          · exact ⟨x, e, x0, x1⟩
          · exact absurd h (by decide)
          · exact absurd h (by decide)
          · exact absurd h (by decide)
        exact ⟨_, _, fm.read (n := n) (by omega) (by omega) x0 x1⟩
      · have g1 : Goods p n [.op w as] := fun t m => ⟨w, as, List.mem_singleton.mp m, go⟩
        refine ⟨R.map (plRow p w as), C, fm.quiet (D := [.op w as]) g1 (fun t m => by rw [List.mem_singleton.mp m]; exact hr) (List.length_map _) fun x g g' e e' => ?_⟩
        rw [List.getElem?_map, e] at e'
        cases e'
        obtain ⟨rm1, rm2⟩ := fm.row (List.mem_of_getElem? e)
        exact adj_one (n := n) (by omega) (by omega) go hr rm1 rm2
  intro E g
  obtain ⟨R, C, fm⟩ := key g
  exact ⟨_, fm.forms (n := n) (by have := fm.len; omega)⟩
/-- a unit is a difference of two runs exactly if its register is no combination of the others -/
theorem Dirs.held {E : List Tr} {D : List (List Int)} (hp : PInv p) (h : Dirs p n k E D) (g : Goods p n E) {fs : List (List Int)} (fo : FormsOf p (n + 1) E fs) (hk : rc E ≤ k) {x : Nat} (hx : x < n) :
    InSp p (n + 1) (D.map row) (row (un (n + 1) (x + 1))) ↔ ¬ Held p (n + (rc E).toNat) fs x := by
  have fl : fs.length = n := by have := fo.1; omega
  have ll : (lin fs).length = n := by rw [lin, List.length_map]; exact fl
  have uk : ∀ j, row (un (n + 1) (x + 1)) j = if x + 1 = j then 1 else 0 := fun j => un_gN (by omega) j
  constructor
  · intro hs hh
    obtain ⟨u, hu⟩ := InW.span g fo hk (R := D.map row) (fun r m => by
      obtain ⟨d, md, rfl⟩ := List.mem_map.mp m
      exact h.sub d md) hs
    -- the registers' differences for u: 1 at x, 0 elsewhere
    have at_ : ∀ y, y < n → p ∣ (if x + 1 = y + 1 then 1 else 0) - dot (n + (rc E).toNat) (row ((lin fs).getD y [])) u := fun y hy => by
      obtain ⟨a, ha⟩ := hu (y + 1) (by omega)
      obtain ⟨b, hb⟩ := lrow_form fo hk hy u
      rw [uk] at ha
      exact ⟨a + b, by grind⟩
    have key : ∀ (ws : List Int) (R : List Row), (∀ r ∈ R, p ∣ dot (n + (rc E).toNat) r u) → p ∣ dot (n + (rc E).toNat) (Lj.comb ws R) u := by
      intro ws
      induction ws with
      | nil =>
        intro R _
        have : dot (n + (rc E).toNat) (Lj.comb [] R) u = 0 := sumF_zero fun k _ => by rw [comb_nilL, Int.zero_mul]
        rw [this]
        exact Int.dvd_zero p
      | cons w ws ih =>
        intro R hR
        cases R with
        | nil =>
          have : dot (n + (rc E).toNat) (Lj.comb (w :: ws) []) u = 0 := sumF_zero fun k _ => by rw [comb_nil, Int.zero_mul]
          rw [this]
          exact Int.dvd_zero p
        | cons r R =>
          have e : dot (n + (rc E).toNat) (Lj.comb (w :: ws) (r :: R)) u = 1 * dot (n + (rc E).toNat) (Lj.comb ws R) u + w * dot (n + (rc E).toNat) r u := by
            unfold dot
            rw [← sumF_lin]
            exact sumF_cong fun k _ => by
              show (w * r k + Lj.comb ws R k) * u k = _
              grind
          rw [e]
          obtain ⟨a, ha⟩ := ih R fun y m => hR y (List.mem_cons_of_mem _ m)
          obtain ⟨b, hb⟩ := hR r List.mem_cons_self
          exact ⟨a + w * b, by grind⟩
    obtain ⟨ws, hw⟩ := hh
    obtain ⟨a, ha⟩ := key ws (((lin fs).eraseIdx x).map row) fun r mr => by
      obtain ⟨r0, m0, rfl⟩ := List.mem_map.mp mr
      obtain ⟨i, hi⟩ := List.mem_iff_getElem?.mp m0
      have : ∃ y, y < n ∧ y ≠ x ∧ (lin fs).getD y [] = r0 := by
        rw [List.getElem?_eraseIdx] at hi
        by_cases c : i < x
        · rw [if_pos c] at hi
          exact ⟨i, by omega, by omega, by rw [List.getD_eq_getElem?_getD, hi]; rfl⟩
        · rw [if_neg c] at hi
          exact ⟨i + 1, by have := (List.getElem?_eq_some_iff.mp hi).1; omega, by omega, by rw [List.getD_eq_getElem?_getD, hi]; rfl⟩
      obtain ⟨y, hy, yx, ey⟩ := this
      obtain ⟨b, hb⟩ := at_ y hy
      rw [if_neg (by omega), ey] at hb
      exact ⟨-b, by grind⟩
    obtain ⟨b, hb⟩ := dot_lin (p := p) (a := 1) (b := 0) (n := n + (rc E).toNat) (e := row ((lin fs).getD x [])) (f := Lj.comb ws (((lin fs).eraseIdx x).map row)) (g := fun _ => 0) (v := u) fun k hk => by
      obtain ⟨t, ht⟩ := hw k hk
      exact ⟨t, by grind⟩
    obtain ⟨c, hc⟩ := at_ x hx
    rw [if_pos rfl] at hc
    have h1 : p ∣ 1 := ⟨c + b + a, by grind⟩
    have := Int.le_of_dvd (by decide) h1
    have := hp.1
    omega
  · intro nh
    obtain ⟨u, h1, h2⟩ := sep hp nh
    refine (h.all u).cong fun j hj => ?_
    cases j with
    | zero =>
      rw [lrow_zero g, uk, if_neg (by omega)]
      exact ⟨0, by grind⟩
    | succ y =>
      obtain ⟨b, hb⟩ := lrow_form fo hk (show y < n by omega) u
      rw [uk]
      by_cases c : y = x
      · subst c
        rw [if_pos rfl]
        obtain ⟨a, ha⟩ := h2
        exact ⟨-a - b, by grind⟩
      · rw [if_neg (by omega)]
        obtain ⟨a, ha⟩ := h1 (row ((lin fs).getD y [])) (List.mem_map.mpr ⟨_, by
          have ey : (lin fs)[y]? = some ((lin fs).getD y []) := by
            rw [List.getD_eq_getElem?_getD, List.getElem?_eq_getElem (by omega)]
            rfl
          by_cases d : y < x
          · exact List.mem_iff_getElem?.mpr ⟨y, by rw [List.getElem?_eraseIdx, if_pos d]; exact ey⟩
          · exact List.mem_iff_getElem?.mpr ⟨y - 1, by rw [List.getElem?_eraseIdx, if_neg (by omega), show y - 1 + 1 = y by omega]; exact ey⟩, rfl⟩)
        exact ⟨-b - a, by grind⟩
end
end Lj
set_option Elab.async false
set_option linter.all false
set_option maxRecDepth 100000
namespace Lj
open PySem PySem.Spec PyProof.Rows L2
section
variable {p : Int} {n k : Nat}
theorem goods_one {z : Str} {as : List Int} (go : GoodOp p n z as) : Goods p n [.op z as] := fun t m => ⟨z, as, List.mem_singleton.mp m, go⟩
theorem goods_app {E F : List Tr} (a : Goods p n E) (b : Goods p n F) : Goods p n (E ++ F) := fun t m => (List.mem_append.mp m).elim (a t) (b t)
theorem law_forms (p0 : 2 ≤ p) {E : List Tr} (g : Goods p n E) : FormsOf p (n + 1) E (lawRows p E n (n + (rc E).toNat)) := by
  obtain ⟨fs, h⟩ := forms_ex p0 g
  have := forms_law (n := n) (k := n) p0 rfl g (m := n + (rc E).toNat) (by have := rc_nn E; omega) h
  rw [← this]
  exact h
/-- register x is a combination of the others behind E -/
def HeldAt (p : Int) (n : Nat) (E : List Tr) (x : Nat) : Prop := Held p (n + (rc E).toNat) (lawRows p E n (n + (rc E).toNat)) x
theorem lrow_app {E F : List Tr} (gF : Goods p n F) (nr : ∀ t ∈ F, t.word ≠ "read") (u : Nat → Int) : lrow p n k (E ++ F) u = act p F (lrow p n k E u) := by
  unfold lrow
  rw [rns_append, rns_act gF nr]
theorem map_len {D : List (List Int)} {F : List Tr} (gF : Goods p n F) (hD : ∀ d ∈ D, d.length = n + 1) : ∀ d ∈ D.map (act p F), d.length = n + 1 := fun d m => by
  obtain ⟨e, me, rfl⟩ := List.mem_map.mp m
  rw [act_len gF]
  exact hD e me
theorem Dirs.leap (p0 : 0 < p) {E F : List Tr} {D : List (List Int)} (h : Dirs p n k E D) (gE : Goods p n E) (gF : Goods p n F) (nr : ∀ t ∈ F, t.word ≠ "read") (ind : Ind p (n + 1) ((D.map (act p F)).map row)) : Dirs p n k (E ++ F) (D.map (act p F)) := by
  have hN : ((n + 1 : Nat) : Int) = (n : Int) + 1 := by omega
  refine ⟨fun d m => ?_, ind, fun d m => ?_, fun u => ?_⟩
  · obtain ⟨e, me, rfl⟩ := List.mem_map.mp m
    exact ⟨by rw [act_len gF]; exact h.len e me, in_act p0 gF (h.ok e me).2⟩
  · obtain ⟨e, me, rfl⟩ := List.mem_map.mp m
    obtain ⟨u, hu⟩ := h.sub e me
    refine ⟨u, fun j hj => ?_⟩
    rw [lrow_app gF nr]
    exact act_cong hN gF (h.len e me) (lrow_len gE u) hu j hj
  · rw [lrow_app gF nr]
    exact act_span hN gF h.len (lrow_len gE u) (h.all u)
/-- to clear a register is to set it to 0 -/
def clr (x : Int) : Tr := .op "set" [x, 0]
theorem clr_good (p0 : 0 < p) {x : Int} (x0 : 0 ≤ x) (x1 : x < n) : Goods p n [clr x] := goods_one (.inl ⟨.inl rfl, x, 0, rfl, x0, x1, by omega, p0⟩)
theorem clr_act (x : Int) (r : List Int) : act p [clr x] r = sv r (x + 1) 0 := by
  show exRow p "set" [x, 0] r = _
  rw [ex_set, Int.zero_mul, Int.zero_emod]
theorem sv_sv (r : List Int) (i a b : Int) : sv (sv r i a) i b = sv r i b := List.set_set ..
theorem gt_sv {r : List Int} {i j a : Int} (h : i.toNat ≠ j.toNat) (hi : i.toNat < r.length) : gt (sv r i a) j = gt r j := by
  show gN (sv r i a) j.toNat = gN r j.toNat
  rw [gN_sv hi, if_neg h]
/-- what is overwritten does not matter -/
theorem ovw_clr {z : Str} {as : List Int} (go : GoodOp p n z as) {x : Int} (ho : ovw z as = some x) (nr : z ≠ "read") {r : List Int} (hr : r.length = n + 1) : exRow p z as (sv r (x + 1) 0) = exRow p z as r := by
  unfold ovw at ho
  split at ho
  · rename_i c
    rcases go with ⟨rfl | rfl, y, d, rfl, x0, x1, _⟩ | ⟨rfl | rfl, y, rfl, x0, x1⟩ | ⟨rfl | rfl, y, d, rfl, x0, x1, y0, y1, ne⟩ | ⟨rfl, y, d, e, rfl, x0, x1, y0, y1, _⟩
    · cases ho
      rw [ex_set, ex_set, sv_sv, gt_sv (by omega) (by omega)]
    · cases ho
      obtain rfl : d = 0 := by
        rcases c with c | c | c | ⟨_, c⟩
        · exact absurd c (by decide)
        · exact absurd c (by decide)
        · exact absurd c (by decide)
        · exact Option.some.inj c
      rw [ex_scale, ex_scale, sv_sv, Int.zero_mul, Int.zero_mul]
    · exact absurd rfl nr
    · rcases c with c | c | c | ⟨c, _⟩ <;> exact absurd c (by decide)
    · cases ho
      rw [ex_copy, ex_copy, sv_sv, gt_sv (by omega) (by omega)]
    · rcases c with c | c | c | ⟨c, _⟩ <;> exact absurd c (by decide)
    · rcases c with c | c | c | ⟨c, _⟩ <;> exact absurd c (by decide)
  · cases ho
/-- the places of a row behind a step that overwrites x -/
theorem ovw_row {z : Str} {as : List Int} (go : GoodOp p n z as) {x : Int} (ho : ovw z as = some x) (nr : z ≠ "read") {r : List Int} (hr : r.length = n + 1) {j : Nat} (hj : (x + 1).toNat ≠ j) : row (exRow p z as r) j = row r j := by
  show gN _ j = gN r j
  unfold ovw at ho
  split at ho
  · rename_i c
    rcases go with ⟨rfl | rfl, y, d, rfl, x0, x1, _⟩ | ⟨rfl | rfl, y, rfl, x0, x1⟩ | ⟨rfl | rfl, y, d, rfl, x0, x1, y0, y1, ne⟩ | ⟨rfl, y, d, e, rfl, x0, x1, y0, y1, _⟩
    · cases ho
      rw [ex_set, gN_sv (by omega), if_neg hj]
    · cases ho
      rw [ex_scale, gN_sv (by omega), if_neg hj]
    · exact absurd rfl nr
    · rcases c with c | c | c | ⟨c, _⟩ <;> exact absurd c (by decide)
    · cases ho
      rw [ex_copy, gN_sv (by omega), if_neg hj]
    · rcases c with c | c | c | ⟨c, _⟩ <;> exact absurd c (by decide)
    · rcases c with c | c | c | ⟨c, _⟩ <;> exact absurd c (by decide)
  · cases ho
theorem ovw_bd {z : Str} {as : List Int} (go : GoodOp p n z as) {x : Int} (ho : ovw z as = some x) : 0 ≤ x ∧ x < n := ovw_in go ho
theorem un_row (hx : x < n) (j : Nat) : row (un (n + 1) (x + 1)) j = if x + 1 = j then 1 else 0 := un_gN (by omega) j
/-- a unit goes to 0 where its register is overwritten -/
theorem ovw_unit {z : Str} {as : List Int} (go : GoodOp p n z as) {x : Nat} (ho : ovw z as = some (x : Int)) (nr : z ≠ "read") : ∀ j, j < n + 1 → p ∣ row (act p [.op z as] (un (n + 1) (x + 1))) j := fun j hj => by
  have hx := (ovw_bd go ho).2
  have hN : ((n + 1 : Nat) : Int) = (n : Int) + 1 := by omega
  have e : act p [.op z as] (un (n + 1) (x + 1)) = act p [.op z as] (sv (un (n + 1) (x + 1)) ((x : Int) + 1) 0) := (ovw_clr go ho nr (un_len _ _)).symm
  rw [e]
  refine act_zero hN (goods_one go) (by rw [sv_len, un_len]) (fun i hi => ?_) j hj
  show p ∣ gN (sv (un (n + 1) (x + 1)) ((x : Int) + 1) 0) i
  rw [gN_sv (by rw [un_len]; omega), un_gN (by omega)]
  by_cases c : x + 1 = i
  · rw [if_pos (by omega)]
    exact Int.dvd_zero p
  · rw [if_neg (by omega), if_neg c]
    exact Int.dvd_zero p
theorem unit_ne (p1 : 1 < p) {x : Nat} (hx : x < n) (h : ∀ j, j < n + 1 → p ∣ row (un (n + 1) (x + 1)) j) : False := by
  have := h (x + 1) (by omega)
  rw [un_row hx, if_pos rfl] at this
  have := Int.le_of_dvd (by decide) this
  omega
/-! ### a step -/
/-- a direction is lost where x is cleared exactly if the unit of x is among the differences -/
theorem Dirs.lost (hp : PInv p) {E : List Tr} {D : List (List Int)} (h : Dirs p n k E D) (gE : Goods p n E) {x : Nat} (hx : x < n) : ¬ Ind p (n + 1) ((D.map (act p [clr x])).map row) ↔ InSp p (n + 1) (D.map row) (row (un (n + 1) (x + 1))) := by
  have hN : ((n + 1 : Nat) : Int) = (n : Int) + 1 := by omega
  have p1 := hp.1
  have gc := clr_good (p := p) (n := n) (by omega) (x := (x : Int)) (by omega) (by omega)
  have cz : ∀ j, j < n + 1 → p ∣ row (act p [clr x] (un (n + 1) (x + 1))) j := ovw_unit (z := "set") (as := [(x : Int), 0]) (.inl ⟨.inl rfl, x, 0, rfl, by omega, by omega, by omega, by omega⟩) rfl (by decide)
  constructor
  · intro ni
    refine Classical.byContradiction fun ns => ni (ind_act hN gc h.len h.ind fun X hX hs hz => ?_)
    -- X is a multiple of the unit
    have at_ : ∀ j, j < n + 1 → j ≠ x + 1 → p ∣ row X j := fun j hj ne => by
      have := hz j hj
      rw [clr_act] at this
      have e : row (sv X ((x : Int) + 1) 0) j = row X j := by
        show gN _ j = gN X j
        rw [gN_sv (by omega), if_neg (by omega)]
      rw [e] at this
      exact this
    have hx1 : p ∣ row X (x + 1) := Classical.byContradiction fun nd => by
      obtain ⟨b, m, hb⟩ := hp.2 _ nd
      refine ns (InSp.lin b 0 hs hs fun j hj => ?_)
      rw [un_row hx]
      by_cases c : x + 1 = j
      · subst c
        rw [if_pos rfl]
        exact ⟨-m, by grind⟩
      · rw [if_neg c]
        obtain ⟨a, ha⟩ := at_ j hj (fun e => c e.symm)
        exact ⟨-(b * a), by grind⟩
    intro j hj
    by_cases c : j = x + 1
    · rw [c]
      exact hx1
    · exact at_ j hj c
  · intro hs hi
    exact unit_ne (by omega) hx (act_kill hN gc h.len hi (un_len _ _) hs cz)
/-- rows that span the cleared directions, independent -/
structure Kept (p : Int) (n : Nat) (D : List (List Int)) (x : Int) (D1 : List (List Int)) : Prop where
  ok : ∀ d ∈ D1, d.length = n + 1 ∧ In p d
  ind : Ind p (n + 1) (D1.map row)
  sp : ∀ v, InSp p (n + 1) (D1.map row) v ↔ InSp p (n + 1) ((D.map (act p [clr x])).map row) v
/-- place x is 0 in all that is spanned -/
theorem Kept.place {D D1 : List (List Int)} {x : Nat} (hx : x < n) (hD : ∀ d ∈ D, d.length = n + 1) (h : Kept p n D x D1) {v : Row} (hv : InSp p (n + 1) (D1.map row) v) : p ∣ v (x + 1) := by
  obtain ⟨ws, hw⟩ := (h.sp v).mp hv
  have z : ∀ (ws : List Int) (R : List Row), (∀ r ∈ R, r (x + 1) = 0) → Lj.comb ws R (x + 1) = 0 := by
    intro ws
    induction ws with
    | nil => exact fun R _ => comb_nilL R _
    | cons w ws ih =>
      intro R hR
      cases R with
      | nil => exact comb_nil _ _
      | cons r R =>
        show w * r (x + 1) + Lj.comb ws R (x + 1) = 0
        rw [hR r List.mem_cons_self, ih R fun y m => hR y (List.mem_cons_of_mem _ m)]
        omega
  have := hw (x + 1) (by omega)
  rw [z ws _ fun r mr => by
    obtain ⟨d, md, rfl⟩ := List.mem_map.mp mr
    obtain ⟨e, me, rfl⟩ := List.mem_map.mp md
    rw [clr_act]
    show gN (sv e ((x : Int) + 1) 0) (x + 1) = 0
    rw [gN_sv (by have := hD e me; omega), if_pos (by omega)], Int.sub_zero] at this
  exact this
theorem Dirs.over (p0 : 2 ≤ p) {E : List Tr} {D D1 : List (List Int)} (h : Dirs p n k E D) (gE : Goods p n E) (hk : rc E ≤ k) {z : Str} {as : List Int} (go : GoodOp p n z as) {x : Nat} (ho : ovw z as = some (x : Int)) (nr : z ≠ "read") (kp : Kept p n D x D1) :
    Dirs p n k (E ++ [.op z as]) (D1.map (act p [.op z as])) := by
  have hN : ((n + 1 : Nat) : Int) = (n : Int) + 1 := by omega
  have hx : x < n := by have := (ovw_bd go ho).2; omega
  have g1 := goods_one go
  have gc := clr_good (p := p) (n := n) (by omega) (x := (x : Int)) (by omega) (by omega)
  have nr1 : ∀ t ∈ ([.op z as] : List Tr), t.word ≠ "read" := fun t m => by rw [List.mem_singleton.mp m]; exact nr
  have len1 : ∀ d ∈ D1, d.length = n + 1 := fun d m => (kp.ok d m).1
  have gE1 := goods_app gE g1
  have rc1 : rc (E ++ [.op z as]) ≤ k := by rw [rc_append, rc_zero nr1, Int.add_zero]; exact hk
  have cc : ∀ r : List Int, r.length = n + 1 → act p [.op z as] (act p [clr x] r) = act p [.op z as] r := fun r hr => by
    rw [clr_act]
    exact ovw_clr go ho nr hr
  refine ⟨fun d m => ?_, ?_, fun d m => ?_, fun u => ?_⟩
  · obtain ⟨e, me, rfl⟩ := List.mem_map.mp m
    exact ⟨by rw [act_len g1]; exact len1 e me, in_act (by omega) g1 (kp.ok e me).2⟩
  · refine ind_act hN g1 len1 kp.ind fun X hX hs hz j hj => ?_
    by_cases c : j = x + 1
    · rw [c]
      exact kp.place hx h.len hs
    · have := hz j hj
      have e : row (act p [.op z as] X) j = row X j := ovw_row go ho nr hX (by omega)
      rw [e] at this
      exact this
  · obtain ⟨e, me, rfl⟩ := List.mem_map.mp m
    have hs := (kp.sp _).mp (InSp.mem (p := p) (L := n + 1) (List.mem_map.mpr ⟨e, me, rfl⟩))
    have h2 := act_span hN g1 (map_len gc h.len) (len1 e me) hs
    refine InW.span gE1 (law_forms p0 gE1) rc1 (fun r mr => ?_) h2
    obtain ⟨d, md, rfl⟩ := List.mem_map.mp mr
    obtain ⟨d2, md2, rfl⟩ := List.mem_map.mp md
    obtain ⟨d3, md3, rfl⟩ := List.mem_map.mp md2
    rw [cc d3 (h.len d3 md3)]
    obtain ⟨u, hu⟩ := h.sub d3 md3
    refine ⟨u, fun j hj => ?_⟩
    rw [lrow_app g1 nr1]
    exact act_cong hN g1 (h.len d3 md3) (lrow_len gE u) hu j hj
  · rw [lrow_app g1 nr1, ← cc _ (lrow_len gE u)]
    refine act_span hN g1 len1 (by rw [act_len gc]; exact lrow_len gE u) ((kp.sp _).mpr ?_)
    exact act_span hN gc h.len (lrow_len gE u) (h.all u)
theorem lrow_read {E : List Tr} {x : Int} (gE : Goods p n E) (hk : rc E < k) (u : Nat → Int) : lrow p n k (E ++ [.op "read" [x]]) u = sv (lrow p n k E u) (x + 1) (u (n + (rc E).toNat)) := by
  unfold lrow
  rw [rns_append]
  show (stp p (uIn n k u) (rns p (uIn n k u) ⟨uRow n u, 0, []⟩ E) (.op "read" [x])).row = _
  rw [stp_read]
  have tk := lrow_tk (k := k) gE u
  have e : (uIn n k u).getD (rns p (uIn n k u) ⟨uRow n u, 0, []⟩ E).tk 0 = u (n + (rc E).toNat) := by
    have : (rns p (uIn n k u) ⟨uRow n u, 0, []⟩ E).tk = (rc E).toNat := by omega
    rw [this]
    exact gN_map (f := fun j => u (n + j)) (by omega)
  rw [e]
  rfl
theorem Dirs.read (hp : PInv p) (p0 : 2 ≤ p) {E : List Tr} {D D1 : List (List Int)} (h : Dirs p n k E D) (gE : Goods p n E) (hk : rc E < k) {x : Nat} (hx : x < n) (kp : Kept p n D x D1) : Dirs p n k (E ++ [.op "read" [(x : Int)]]) (D1 ++ [un (n + 1) (x + 1)]) := by
  have hN : ((n + 1 : Nat) : Int) = (n : Int) + 1 := by omega
  have gc := clr_good (p := p) (n := n) (by omega) (x := (x : Int)) (by omega) (by omega)
  have gr : GoodOp p n "read" [(x : Int)] := .inr (.inl ⟨.inl rfl, x, rfl, by omega, by omega⟩)
  have gE1 := goods_app gE (goods_one gr)
  have len1 : ∀ d ∈ D1, d.length = n + 1 := fun d m => (kp.ok d m).1
  have r1 : rc [.op "read" [(x : Int)]] = 1 := rfl
  have rc1 : rc (E ++ [.op "read" [(x : Int)]]) ≤ k := by rw [rc_append, r1]; omega
  have em : (D1 ++ [un (n + 1) (x + 1)]).map row = D1.map row ++ [row (un (n + 1) (x + 1))] := by
    rw [List.map_append]
    rfl
  have svr : ∀ (r : List Int) (c : Int) (j : Nat), r.length = n + 1 → row (sv r ((x : Int) + 1) c) j = if x + 1 = j then c else row r j := fun r c j hr => by
    show gN _ j = _
    rw [gN_sv (by omega)]
    by_cases e : x + 1 = j
    · rw [if_pos (by omega), if_pos e]
    · rw [if_neg (by omega), if_neg e]
      rfl
  refine ⟨fun d m => ?_, ?_, fun d m => ?_, fun u => ?_⟩
  · rcases List.mem_append.mp m with m | m
    · exact kp.ok d m
    · rw [List.mem_singleton.mp m]
      exact ⟨un_len _ _, un_in p0 _ _⟩
  · rw [em]
    refine (Ind.snoc hp).mpr ⟨kp.ind, fun hs => ?_⟩
    have := kp.place hx h.len hs
    rw [un_row hx, if_pos rfl] at this
    have := Int.le_of_dvd (by decide) this
    omega
  · rcases List.mem_append.mp m with m | m
    · have hs := (kp.sp _).mp (InSp.mem (p := p) (L := n + 1) (List.mem_map.mpr ⟨d, m, rfl⟩))
      refine InW.span gE1 (law_forms p0 gE1) rc1 (fun r mr => ?_) hs
      obtain ⟨d1, md1, rfl⟩ := List.mem_map.mp mr
      obtain ⟨d3, md3, rfl⟩ := List.mem_map.mp md1
      rw [clr_act]
      obtain ⟨u, hu⟩ := h.sub d3 md3
      refine ⟨fun i => if i < n + (rc E).toNat then u i else 0, fun j hj => ?_⟩
      rw [lrow_read gE hk, if_neg (Nat.lt_irrefl _), svr _ _ _ (h.len d3 md3), svr _ _ _ (lrow_len gE _)]
      by_cases c : x + 1 = j
      · rw [if_pos c, if_pos c]
        exact ⟨0, by grind⟩
      · rw [if_neg c, if_neg c]
        obtain ⟨a, ha⟩ := hu j hj
        obtain ⟨b, hb⟩ := lrow_cong (k := k) gE (law_forms p0 gE) (by omega) (u := u) (v := fun i => if i < n + (rc E).toNat then u i else 0) (fun i hi => by rw [if_pos hi]) j hj
        exact ⟨a + b, by grind⟩
    · rw [List.mem_singleton.mp m]
      refine ⟨oneAt (n + (rc E).toNat), fun j hj => ?_⟩
      rw [lrow_read gE hk, svr _ _ _ (lrow_len gE _), un_row hx]
      by_cases c : x + 1 = j
      · rw [if_pos c, if_pos c]
        unfold oneAt
        rw [if_pos rfl]
        exact ⟨0, by grind⟩
      · rw [if_neg c, if_neg c]
        obtain ⟨b, hb⟩ := lrow_cong (k := k) gE (law_forms p0 gE) (by omega) (u := oneAt (n + (rc E).toNat)) (v := fun _ => 0) (fun i hi => by unfold oneAt; rw [if_neg (by omega)]) j hj
        obtain ⟨b2, hb2⟩ := lrow_lin (k := k) gE (law_forms p0 gE) (by omega) (-1) (fun _ => 0) (fun _ => 0) j hj
        have e : (fun i : Nat => (0 : Int) + (-1) * 0) = fun _ => 0 := rfl
        rw [e] at hb2
        exact ⟨-b - b2, by grind⟩
  · rw [em, lrow_read gE hk]
    have h1 := act_span hN gc h.len (lrow_len gE u) (h.all u)
    have h2 := ((kp.sp _).mpr h1).mono (S := D1.map row ++ [row (un (n + 1) (x + 1))]) fun r m => List.mem_append_left _ m
    refine InSp.lin 1 (u (n + (rc E).toNat)) h2 (InSp.mem (r := row (un (n + 1) (x + 1))) (List.mem_append_right _ List.mem_cons_self)) fun j hj => ?_
    rw [clr_act, svr _ _ _ (lrow_len gE u), svr _ _ _ (lrow_len gE u), un_row hx]
    by_cases c : x + 1 = j
    · rw [if_pos c, if_pos c, if_pos c]
      exact ⟨0, by grind⟩
    · rw [if_neg c, if_neg c, if_neg c]
      exact ⟨0, by grind⟩
end
end Lj
set_option Elab.async false
set_option linter.all false
set_option maxRecDepth 100000
namespace Lj
open PySem PySem.Spec PyProof.Rows L2
section
variable {p : Int} {n k : Nat}
/-! ### steps that overwrite nothing lose nothing -/
/-! ### the start -/
theorem comb_units {N : Nat} (hN : N = n + 1) (ws : List Int) (hl : ws.length = n) {j : Nat} (hj : j < n + 1) : Lj.comb ws (((List.range n).map fun x => un N (x + 1)).map row) j = if j = 0 then 0 else ws.getD (j - 1) 0 := by
  subst hN
  rw [comb_rows ws _ (by rw [List.length_map, List.length_range]; exact hl), List.length_map, List.length_range]
  have e : sumF (fun i => ws.getD i 0 * gN (((List.range n).map fun x => un (n + 1) (x + 1)).getD i []) j) n = sumF (fun i => ws.getD i 0 * (if i + 1 = j then 1 else 0)) n := sumF_cong fun i hi => by
    rw [List.getD_eq_getElem?_getD (l := (List.range n).map fun x => un (n + 1) (x + 1)), List.getElem?_map, List.getElem?_range hi]
    show _ * gN (un (n + 1) (i + 1)) j = _
    rw [un_gN (by omega)]
  rw [e]
  by_cases c : j = 0
  · rw [if_pos c]
    exact sumF_zero fun i _ => by rw [if_neg (by omega), Int.mul_zero]
  · rw [if_neg c]
    have e2 : sumF (fun i => ws.getD i 0 * (if i + 1 = j then 1 else 0)) n = sumF (fun i => ws.getD i 0 * (if i = j - 1 then 1 else 0)) n := sumF_cong fun i _ => by
      by_cases d : i + 1 = j
      · rw [if_pos d, if_pos (by omega)]
      · rw [if_neg d, if_neg (by omega)]
    rw [e2]
    exact sumF_pick (fun i => ws.getD i 0) (by omega)
theorem Dirs.start (p0 : 2 ≤ p) : Dirs p n k [] ((List.range n).map fun x => un (n + 1) (x + 1)) := by
  have lr : ∀ u, lrow p n k [] u = uRow n u := fun u => rfl
  refine ⟨fun d m => ?_, fun ws hl hz w m => ?_, fun d m => ?_, fun u => ?_⟩
  · obtain ⟨x, _, rfl⟩ := List.mem_map.mp m
    exact ⟨un_len _ _, un_in p0 _ _⟩
  · rw [List.length_map, List.length_map, List.length_range] at hl
    obtain ⟨i, hi⟩ := List.mem_iff_getElem?.mp m
    have il := (List.getElem?_eq_some_iff.mp hi).1
    have := hz (i + 1) (by omega)
    rw [comb_units rfl ws hl (by omega), if_neg (by omega), Nat.add_sub_cancel, List.getD_eq_getElem?_getD, hi] at this
    exact this
  · obtain ⟨x, mx, rfl⟩ := List.mem_map.mp m
    have hx := List.mem_range.mp mx
    refine ⟨oneAt x, fun j hj => ?_⟩
    rw [lr, un_row hx]
    have : row (uRow n (oneAt x)) j = if x + 1 = j then 1 else 0 := by
      cases j with
      | zero => rfl
      | succ j =>
        show gN ((List.range n).map (oneAt x)) j = _
        rw [gN_map (by omega)]
        unfold oneAt
        by_cases c : j = x
        · rw [if_pos c, if_pos (by omega)]
        · rw [if_neg c, if_neg (by omega)]
    rw [this]
    exact ⟨0, by grind⟩
  · refine ⟨(List.range n).map u, fun j hj => ?_⟩
    rw [lr, comb_units rfl _ (by rw [List.length_map, List.length_range]) hj]
    cases j with
    | zero =>
      rw [if_pos rfl]
      exact ⟨0, by show (0 : Int) - 0 = _; omega⟩
    | succ j =>
      rw [if_neg (by omega), Nat.add_sub_cancel]
      have : row (uRow n u) (j + 1) = ((List.range n).map u).getD j 0 := rfl
      rw [this]
      exact ⟨0, by grind⟩
/-! ### which steps push -/
open Classical in
noncomputable def pshO (p : Int) (n : Nat) (E : List Tr) : Option Int → List (Nat × Nat)
  | some x => if HeldAt p n E x.toNat then [] else [(E.length, x.toNat)]
  | none => []
noncomputable def pshT (p : Int) (n : Nat) (E : List Tr) : Tr → List (Nat × Nat)
  | .op z as => pshO p n E (ovw z as)
  | .loop _ _ => []
noncomputable def pshs (p : Int) (n : Nat) (E : List Tr) : List (Nat × Nat) := ((List.range E.length).map fun i => match E[i]? with
  | some t => pshT p n (E.take i) t
  | none => []).flatten
end
end Lj
set_option Elab.async false
set_option linter.all false
set_option maxRecDepth 100000
namespace Lj
open PySem PySem.Spec PyProof.Rows L2
section
variable {p : Int} {n k : Nat}
/-! ### at most n rows are independent -/
theorem bas_ex (hp : PInv p) {N : Nat} : ∀ {m : Nat} {D : List (List Int)}, D.length = m → (∀ d ∈ D, d.length = N ∧ In p d) → ∃ B, BasOf p N B (D.map row)
  | 0, D, h, _ => by
    rw [List.length_eq_zero_iff.mp h]
    exact ⟨[], BasOf.nil p N⟩
  | m + 1, D, h, hD => by
    have p1 := hp.1
    obtain ⟨S, d, rfl, hS⟩ := snoc_of h
    obtain ⟨B, b⟩ := bas_ex hp hS fun e me => hD e (List.mem_append_left _ me)
    obtain ⟨dl, df⟩ := hD d (List.mem_append_right _ List.mem_cons_self)
    have em : (S ++ [d]).map row = S.map row ++ [row d] := by
      rw [List.map_append]
      rfl
    rw [em]
    have rl := red_len (p := p) (fun e m => (b.ok e m).1) dl
    have rf := red_fe (p := p) (by omega) (B := B) df
    by_cases z : ∀ i, i < N → row (red p B d) i = 0
    · exact ⟨B, b.same (by omega) dl df z⟩
    · have : ∃ c, c < N ∧ row (red p B d) c ≠ 0 := Classical.byContradiction fun n => z fun i hi => Classical.byContradiction fun e => n ⟨i, hi, e⟩
      obtain ⟨c, hc, nz⟩ := this
      obtain ⟨f0, f1⟩ := rf.row (i := c) (by omega)
      obtain ⟨s, t, hs⟩ := hp.2 (row (red p B d) c) (fun dv => nz (fe_dvd f0 f1 dv))
      refine ⟨_, b.add p1 dl df hc (s := s) ?_⟩
      have : s * row (red p B d) c = 1 + p * t := by grind
      rw [this, Int.add_mul_emod_self_left]
      exact Int.emod_eq_of_lt (by decide) p1
theorem ind_few (hp : PInv p) {D : List (List Int)} (hD : ∀ d ∈ D, d.length = n + 1 ∧ In p d) (h0 : ∀ d ∈ D, p ∣ row d 0) (ind : Ind p (n + 1) (D.map row)) : D.length ≤ n := by
  have p1 := hp.1
  obtain ⟨B, b⟩ := bas_ex hp rfl hD
  have e1 := (Ind.dim hp).mp ind
  rw [← b.cnt, List.length_map] at e1
  rw [← e1]
  -- the pivots are unlike, and none is 0
  have nz : ∀ e ∈ B, e.1 ≠ 0 := fun e m z => by
    have hs := (b.sp _).mp (bR_mem m)
    have key : ∀ (ws : List Int) (R : List Row), (∀ r ∈ R, p ∣ r 0) → p ∣ Lj.comb ws R 0 := by
      intro ws
      induction ws with
      | nil =>
        intro R _
        rw [comb_nilL]
        exact Int.dvd_zero p
      | cons w ws ih =>
        intro R hR
        cases R with
        | nil =>
          rw [comb_nil]
          exact Int.dvd_zero p
        | cons r R =>
          obtain ⟨a, ha⟩ := hR r List.mem_cons_self
          obtain ⟨c, hc⟩ := ih R fun y m => hR y (List.mem_cons_of_mem _ m)
          exact ⟨w * a + c, by
            show w * r 0 + Lj.comb ws R 0 = _
            grind⟩
    obtain ⟨ws, hw⟩ := hs
    obtain ⟨a, ha⟩ := hw 0 (by omega)
    obtain ⟨c, hc⟩ := key ws (D.map row) fun r mr => by
      obtain ⟨d, md, rfl⟩ := List.mem_map.mp mr
      exact h0 d md
    have h1 := (b.ok e m).2.2.2
    rw [z] at h1
    have : p ∣ 1 := ⟨a + c, by grind⟩
    have := Int.le_of_dvd (by decide) this
    omega
  have nd : (B.map Prod.fst).Nodup := by
    have t := b.tri
    rw [List.nodup_iff_pairwise_ne, List.pairwise_map]
    refine t.imp_of_mem fun {e f} me mf h => fun eq => ?_
    have := (b.ok f mf).2.2.2
    rw [← eq, h] at this
    cases this
  have sub : B.map Prod.fst ⊆ (List.range n).map (· + 1) := fun c m => by
    obtain ⟨e, me, rfl⟩ := List.mem_map.mp m
    have h1 := nz e me
    have h2 := (b.ok e me).2.2.1
    exact List.mem_map.mpr ⟨e.1 - 1, List.mem_range.mpr (by omega), by omega⟩
  have := nd.length_le_of_subset sub
  rw [List.length_map, List.length_map, List.length_range] at this
  exact this
/-! ### what goes to 0 at all does so within n rounds -/
end
end Lj
set_option Elab.async false
set_option linter.all false
set_option maxRecDepth 100000
set_option pp.maxSteps 500
set_option pp.deepTerms.threshold 8
set_option pp.deepTerms false
namespace Lj
open PySem PySem.Spec PyProof.Rows L2
/-! ### the dimension depends on the span -/
section
variable {p : Int} {L : Nat}
theorem kill_comb {v : Nat → Int} : ∀ (ws : List Int) (R : List Row), (∀ r ∈ R, p ∣ dot L r v) → p ∣ dot L (comb ws R) v
  | [], R, _ => by
    have : dot L (comb [] R) v = 0 := sumF_zero fun k _ => by rw [comb_nilL, Int.zero_mul]
    rw [this]
    exact Int.dvd_zero p
  | w :: ws, [], _ => by
    have : dot L (comb (w :: ws) []) v = 0 := sumF_zero fun k _ => by rw [comb_nil, Int.zero_mul]
    rw [this]
    exact Int.dvd_zero p
  | w :: ws, r :: R, hR => by
    have e : dot L (comb (w :: ws) (r :: R)) v = 1 * dot L (comb ws R) v + w * dot L r v := by
      unfold dot
      rw [← sumF_lin]
      exact sumF_cong fun k _ => by
        show (w * r k + comb ws R k) * v k = _
        grind
    rw [e]
    obtain ⟨a, ha⟩ := kill_comb ws R fun y m => hR y (List.mem_cons_of_mem _ m)
    obtain ⟨b, hb⟩ := hR r List.mem_cons_self
    exact ⟨a + w * b, by grind⟩
theorem kill_of_span {R : List Row} {x : Row} (h : InSp p L R x) {v : Nat → Int} (hv : ∀ r ∈ R, p ∣ dot L r v) : p ∣ dot L x v := by
  obtain ⟨ws, hw⟩ := h
  obtain ⟨a, ha⟩ := kill_comb ws R hv
  obtain ⟨b, hb⟩ := dot_lin (p := p) (a := 1) (b := 0) (n := L) (e := x) (f := comb ws R) (g := comb ws R) (v := v) fun k hk => by
    obtain ⟨t, ht⟩ := hw k hk
    exact ⟨t, by grind⟩
  exact ⟨a + b, by grind⟩
/-! ### a place that is 0 in all rows -/
/-! ### families of rows -/
end
end Lj
set_option Elab.async false
set_option linter.all false
set_option maxRecDepth 100000
set_option pp.maxSteps 500
set_option pp.deepTerms.threshold 8
set_option pp.deepTerms false
namespace Lj
open PySem PySem.Spec PyProof.Rows L2
/-! ### how many pushes there are -/
section
variable {p : Int} {n k : Nat}
/-- f holds the linear parts of the registers behind E -/
def Fam (p : Int) (n k : Nat) (E : List Tr) (m : Nat) (f : Nat → Row) : Prop := ∀ x, x < n → ∀ u : Nat → Int, p ∣ row (lrow p n k E u) (x + 1) - dot m (f x) u
theorem Fam.to {E : List Tr} {m : Nat} {f : Nat → Row} (h : Fam p n k E m f) {x : Nat} (hx : x < n) {u : Nat → Int} (d : p ∣ row (lrow p n k E u) (x + 1)) : p ∣ dot m (f x) u := by
  obtain ⟨a, ha⟩ := h x hx u
  obtain ⟨b, hb⟩ := d
  exact ⟨b - a, by grind⟩
theorem Fam.of {E : List Tr} {m : Nat} {f : Nat → Row} (h : Fam p n k E m f) {x : Nat} (hx : x < n) {u : Nat → Int} (d : p ∣ dot m (f x) u) : p ∣ row (lrow p n k E u) (x + 1) := by
  obtain ⟨a, ha⟩ := h x hx u
  obtain ⟨b, hb⟩ := d
  exact ⟨a + b, by grind⟩
/-! ### the law's rows as a family -/
end
end Lj
set_option Elab.async false
set_option linter.all false
set_option maxRecDepth 100000
set_option pp.maxSteps 500
set_option pp.deepTerms.threshold 8
set_option pp.deepTerms false
namespace Lj
open PySem PySem.Spec PyProof.Rows L2
/-! ### the values that are saved -/
section
variable {p : Int} {n : Nat}
def savT (is : List Int) (s0 : RS) (p : Int) (E : List Tr) (P : List (Nat × Nat)) : List Int := P.map fun e => gN (rns p is s0 E).row (e.2 + 1)
noncomputable def savs (p : Int) (n : Nat) (is : List Int) (s0 : RS) (E : List Tr) : List Int := ((List.range E.length).map fun i => match E[i]? with
  | some t => savT is s0 p (E.take i) (pshT p n (E.take i) t)
  | none => []).flatten
end
theorem Pos.at_ : ∀ {L : List Pc} {o i : Nat} {c : Pc}, Pos o L → L[i]? = some c → c.st = o + (pex (L.take i)).length
  | c :: L, o, 0, d, h, e => by
    cases e
    exact h.1
  | c :: L, o, i + 1, d, h, e => by
    have := Pos.at_ (i := i) h.2 e
    rw [this]
    show _ = o + (pex (c :: L.take i)).length
    have : pex (c :: L.take i) = c.ex ++ pex (L.take i) := rfl
    rw [this, List.length_append]
    omega
/-! ### the flow beside tracks -/
def ff (t : V) (x dl : Addr) (m : Int) (ps sl : Addr) : List (Str × V) := [("track", t), ("runner", .ref x), ("directions", .ref dl), ("moment", .int m), ("pushed", .ref ps), ("saved", .ref sl)]
section
variable (t : V) (x dl : Addr) (m : Int) (ps sl : Addr)
end
/-- the places of a flow -/
structure FlP where
  y : Addr
  dy : Addr
  x : Addr
  dx : Addr
  wl : Addr
  g : Addr
  ps : Addr
  sl : Addr
  t : Addr
structure FlP.Ne (c : FlP) : Prop where
  yx : c.y ≠ c.x
  yw : c.y ≠ c.wl
  px : c.ps ≠ c.x
  pw : c.ps ≠ c.wl
  py : c.ps ≠ c.y
  sx : c.sl ≠ c.x
  sw : c.sl ≠ c.wl
  sy : c.sl ≠ c.y
  sp : c.sl ≠ c.ps
def pairs (P : List (Nat × Nat)) : List (List Int) := P.map fun e => [(e.1 : Int), (e.2 : Int)]
structure FlG (K : PySem.W.Frag) (CT CR CP CF : Addr) (p : Int) (n : Nat) (G : Gh) (H : Hp) (c : FlP) (b : List Tr) (is : List Int) (s : RS) (l dl : Addr) (m : Int) (P : List (Nat × Nat)) (S : List Int) (D : List (List Int)) : Prop where
  rn : RnAt CR CP p n (n + 1) G H c.x c.dx l c.wl c.g s
  gy : G c.y = some .loose
  gp : G c.ps = some .loose
  gs : G c.sl = some .loose
  ne : c.Ne
  hy : H c.y = some (.ins CF c.dy (ff (.ref c.t) c.x dl m c.ps c.sl))
  hp : ∃ us, H c.ps = some (.lst us) ∧ TpsAt (wg (gl G l) H) (pairs P) us
  hs : H c.sl = some (.lst (S.map V.int))
  hd : MatAt (wg (gl G l) H) D (.ref dl)
  hg : SqT K (wg (gl G l) H) c.g (is.map V.int)
  tk : TkAt K CT p n (gl G l) (wg (gl G l) H) b (.ref c.t)
/-- of the loose places only the flow's own are written -/
def LoF (c : FlP) (G : Gh) (H H' : Hp) : Prop := ∀ a, G a = some .loose → a ≠ c.x → a ≠ c.wl → a ≠ c.y → a ≠ c.ps → a ≠ c.sl → H' a = H a
theorem LoF.refl (c : FlP) (G : Gh) (H : Hp) : LoF c G H H := fun _ _ _ _ _ _ _ => rfl
theorem LoF.trans {c : FlP} {G : Gh} {H H1 H2 : Hp} (a : LoF c G H H1) (b : LoF c G H1 H2) : LoF c G H H2 := fun z e n1 n2 n3 n4 n5 => (b z e n1 n2 n3 n4 n5).trans (a z e n1 n2 n3 n4 n5)
/-- of all places that change, only the flow's own -/
def LoY (c : FlP) (G : Gh) (l : Addr) (H H' : Hp) : Prop := ∀ a, gl G l a ≠ none → a ≠ c.y → a ≠ c.ps → a ≠ c.sl → H' a = H a
theorem LoY.trans {c : FlP} {G : Gh} {l : Addr} {H H1 H2 : Hp} (a : LoY c G l H H1) (b : LoY c G l H1 H2) : LoY c G l H H2 := fun z e n1 n2 n3 => (b z e n1 n2 n3).trans (a z e n1 n2 n3)
theorem LoY.of_same {CP : Addr} {p n : Int} {N : Nat} {c : FlP} {G : Gh} {l : Addr} {H H' : Hp} (I : InvG CP p n N (gl G l) H) (sm : Same H H') : LoY c G l H H' := fun z e _ _ _ => by
  cases h : H z with
  | none => exact absurd (I.held h) e
  | some o => exact sm _ _ h
theorem LoY.of_upd {c : FlP} {G : Gh} {l a : Addr} {H : Hp} {o : HO} (h : a = c.y ∨ a = c.ps ∨ a = c.sl) : LoY c G l H (upd H a o) := fun z _ n1 n2 n3 => upd_ne fun e => by
  subst e
  rcases h with h | h | h
  · exact n1 h
  · exact n2 h
  · exact n3 h
/-- what is known of the history -/
structure FlR (p : Int) (n : Nat) (is rs : List Int) : Prop where
  pr : Prm p
  n0 : 0 < n
  n1 : n ≤ 80
  rl : rs.length = n
  ri : In p rs
  ii : In p is
  il : is.length ≤ 100000
/-- and of the program -/
structure FlW (p : Int) (n : Nat) (b : List Tr) (d : Nat) : Prop where
  ok : okB d b
  gd : Goods p n (exs b)
  few : pcBs b ≤ 8000000
  wd : (exs b).length ≤ wide
/-- a flow behind the steps E -/
structure FlAt (K : PySem.W.Frag) (CT CR CP CF : Addr) (p : Int) (n : Nat) (G : Gh) (H : Hp) (c : FlP) (b : List Tr) (is rs : List Int) (l dl : Addr) (m : Int) (E : List Tr) (D : List (List Int)) : Prop where
  g : FlG K CT CR CP CF p n G H c b is (rns p is (run0 rs) E) l dl m (pshs p n E) (savs p n is (run0 rs) E) D
  dr : Dirs p n is.length E D
  gE : Goods p n E
section
variable {K : PySem.W.Frag} {CT CR CP CF : Addr} {p : Int} {n : Nat} {G : Gh} {H H' : Hp} {c : FlP} {b : List Tr} {is rs : List Int} {s : RS} {l dl : Addr} {m : Int} {P : List (Nat × Nat)} {S : List Int} {D : List (List Int)} {E : List Tr}
theorem FlG.lx (f : FlG K CT CR CP CF p n G H c b is s l dl m P S D) : ∀ {a}, G a = some .loose → a ≠ l := fun e z => by
  have := f.rn.gl0
  rw [← z, e] at this
  cases this
/-- nothing that counts has changed -/
theorem FlG.same (f : FlG K CT CR CP CF p n G H c b is s l dl m P S D) (sm : Same H H') : FlG K CT CR CP CF p n G H' c b is s l dl m P S D := by
  have w := wg_same (G := gl G l) sm
  obtain ⟨us, hp, tp⟩ := f.hp
  exact ⟨⟨f.rn.gx, f.rn.gw, f.rn.xw, f.rn.gl0, f.rn.inv.same sm, sm _ _ f.rn.hx, sm _ _ f.rn.hl, sm _ _ f.rn.hw⟩, f.gy, f.gp, f.gs, f.ne, sm _ _ f.hy, ⟨us, sm _ _ hp, tp.same w⟩, sm _ _ f.hs, f.hd.same w, (Kt.same w).sq f.hg, f.tk.monoP (fun _ _ _ _ _ _ e => e) w⟩
/-- other powers are known -/
theorem FlG.ev {k : Nat} (f : FlG K CT CR CP CF p n G H c b is s l dl m P S D) (e : Ev CP p n (n + 1) (gl G l) k H H') : FlG K CT CR CP CF p n G H' c b is s l dl m P S D := by
  have w := e.sm
  obtain ⟨us, hp, tp⟩ := f.hp
  have lo : ∀ a, G a = some .loose → H' a = H a := fun a g => e.lo a (gl_loose g)
  exact ⟨⟨f.rn.gx, f.rn.gw, f.rn.xw, f.rn.gl0, e.inv, (lo _ f.rn.gx).trans f.rn.hx, (e.lo _ gl_at).trans f.rn.hl, (lo _ f.rn.gw).trans f.rn.hw⟩, f.gy, f.gp, f.gs, f.ne, (lo _ f.gy).trans f.hy, ⟨us, (lo _ f.gp).trans hp, tp.same w⟩, (lo _ f.gs).trans f.hs, f.hd.same w, (Kt.same w).sq f.hg, f.tk.monoP (fun _ _ _ _ _ _ e => e) w⟩
/-- a loose place of its own is written -/
theorem FlG.putW (f : FlG K CT CR CP CF p n G H c b is s l dl m P S D) {a : Addr} (ga : G a = some .loose) {o : HO} : wg (gl G l) (upd H a o) = wg (gl G l) H := wg_put (gl_loose ga)
theorem FlG.putI (f : FlG K CT CR CP CF p n G H c b is s l dl m P S D) {a : Addr} (ga : G a = some .loose) {o : HO} (lo : Loo o) : InvG CP p n (n + 1) (gl G l) (upd H a o) := f.rn.inv.obj (gl_loose ga) lo
/-- a push is noted -/
theorem FlG.push (f : FlG K CT CR CP CF p n G H c b is s l dl m P S D) {us : List V} (h : H c.ps = some (.lst us)) {e : Nat × Nat} {v : V} (hv : TpAt (wg (gl G l) H) [(e.1 : Int), (e.2 : Int)] v) (tp : TpsAt (wg (gl G l) H) (pairs P) us) : FlG K CT CR CP CF p n G (upd H c.ps (.lst (us ++ [v]))) c b is s l dl m (P ++ [e]) S D := by
  have ew := f.putW f.gp (o := .lst (us ++ [v]))
  have r := f.rn
  refine ⟨⟨r.gx, r.gw, r.xw, r.gl0, f.putI f.gp (.inl ⟨_, rfl⟩), (upd_ne f.ne.px.symm).trans r.hx, (upd_ne (f.lx f.gp).symm).trans r.hl, (upd_ne f.ne.pw.symm).trans r.hw⟩, f.gy, f.gp, f.gs, f.ne, (upd_ne f.ne.py.symm).trans f.hy, ⟨_, upd_same, ?_⟩, (upd_ne f.ne.sp).trans f.hs, ?_, ?_, ?_⟩
  · rw [ew, pairs, List.map_append]
    exact TpsAt.snoc hv tp
  · rw [ew]
    exact f.hd
  · rw [ew]
    exact f.hg
  · rw [ew]
    exact f.tk
/-- the runner has gone on -/
theorem FlG.run {l' : Addr} {s' : RS} (f : FlG K CT CR CP CF p n G H c b is s l dl m P S D) (r : RnAt CR CP p n (n + 1) G H' c.x c.dx l' c.wl c.g s') (w : Same (wg (gl G l) H) (wg (gl G l') H')) (lo : Lo c.x c.wl G H H') : FlG K CT CR CP CF p n G H' c b is s' l' dl m P S D := by
  obtain ⟨us, hp, tp⟩ := f.hp
  exact ⟨r, f.gy, f.gp, f.gs, f.ne, (lo _ f.gy f.ne.yx f.ne.yw).trans f.hy, ⟨us, (lo _ f.gp f.ne.px f.ne.pw).trans hp, tp.same w⟩, (lo _ f.gs f.ne.sx f.ne.sw).trans f.hs, f.hd.same w, (Kt.same w).sq f.hg, f.tk.monoP (Pg.show.trans (Pg.hide r.gl0)) w⟩
theorem LoF.of_upd {a : Addr} {o : HO} (h : a = c.x ∨ a = c.wl ∨ a = c.y ∨ a = c.ps ∨ a = c.sl) : LoF c G H (upd H a o) := fun z _ n1 n2 n3 n4 n5 => upd_ne fun e => by
  subst e
  rcases h with h | h | h | h | h
  · exact n1 h
  · exact n2 h
  · exact n3 h
  · exact n4 h
  · exact n5 h
theorem LoF.of_same {CP : Addr} {N : Nat} (I : InvG CP p n N G H) (sm : Same H H') : LoF c G H H' := fun z e _ _ _ _ _ => I.at_ sm e
/-- directions are few -/
theorem Dirs.few {k : Nat} (hp : PInv p) (h : Dirs p n k E D) (g : Goods p n E) : D.length ≤ n := ind_few hp h.ok (fun d md => by
  obtain ⟨u, hu⟩ := h.sub d md
  have := hu 0 (by omega)
  rw [lrow_zero g, Int.sub_zero] at this
  exact this) h.ind
/-- nothing is lost at x exactly if it is a combination of the others -/
theorem Dirs.quiet {k : Nat} (hp : PInv p) (p0 : 2 ≤ p) (h : Dirs p n k E D) (g : Goods p n E) (hk : rc E ≤ k) {x : Nat} (hx : x < n) : Ind p (n + 1) ((D.map (act p [clr (x : Int)])).map row) ↔ HeldAt p n E x := by
  have a := Dirs.lost hp h g hx
  have b := Dirs.held hp h g (law_forms p0 g) hk hx
  exact ⟨fun i => Classical.byContradiction fun n => a.mpr (b.mpr n) i, fun i => Classical.byContradiction fun n => b.mp (a.mp n) i⟩
end
end Lj
set_option Elab.async false
set_option linter.all false
set_option maxRecDepth 100000
namespace Lj
open PySem PySem.Spec PyProof.Rows L2
section
variable {p : Int} {n k : Nat}
end
/-! ### the law's maps, with a new list each time -/
end Lj
set_option Elab.async false
set_option linter.all false
set_option maxRecDepth 100000
set_option pp.maxSteps 500
set_option pp.deepTerms.threshold 8
set_option pp.deepTerms false
namespace Lj
open PySem PySem.Spec PyProof.Rows L2
/-! ### what is pushed, and where -/
section
variable {p : Int} {n : Nat}
end
end Lj
set_option Elab.async false
set_option linter.all false
set_option maxRecDepth 100000
set_option pp.maxSteps 500
set_option pp.deepTerms.threshold 8
set_option pp.deepTerms false
namespace Lj
open PySem PySem.Spec PyProof.Rows L2
/-! ### behind n rounds of a loop without reads nothing is pushed, whatever is before it -/
section
variable {p : Int} {n k : Nat}
end
end Lj
set_option Elab.async false
set_option linter.all false
set_option maxRecDepth 100000
set_option maxHeartbeats 4000000
set_option pp.maxSteps 700
namespace Lj
open PySem PySem.Spec PyProof.Rows L2
/-! ### set(xs), xs a tuple of tuples of ints -/
section
variable {P : Program} {w : World} {A : Around} {E : Value → Shared → Prop} {s : Shared} {l : Addr} {xs : Array Value} {ks : List (Addr × List Int)}
end
end Lj
set_option Elab.async false
set_option linter.all false
set_option maxRecDepth 100000
set_option pp.maxSteps 500
set_option pp.deepTerms.threshold 8
set_option pp.deepTerms false
namespace Lj
open PySem PySem.Spec PyProof.Rows L2
/-! ### pushes: ascending; which steps -/
section
variable {p : Int} {n : Nat}
end
section
variable {K : PySem.W.Frag}
theorem TpsAt.take {H : Hp} : ∀ {R : List (List Int)} {vs : List V} (i : Nat), TpsAt H R vs → TpsAt H (R.take i) (vs.take i)
  | R, vs, 0, h => by
    rw [List.take_zero, List.take_zero]
    rfl
  | [], vs, i + 1, h => by
    have e : vs = [] := h
    rw [e, List.take_nil, List.take_nil]
    rfl
  | r :: R, vs, i + 1, ⟨v, us, e, a, t⟩ => by
    subst e
    rw [List.take_succ_cons, List.take_succ_cons]
    exact ⟨v, us.take i, rfl, a, TpsAt.take i t⟩
end
end Lj
set_option Elab.async false
set_option linter.all false
set_option maxRecDepth 100000
set_option pp.maxSteps 500
set_option pp.deepTerms.threshold 8
set_option pp.deepTerms false
namespace Lj
open PySem PySem.Spec PyProof.Rows L2
/-! ### all histories of a small field -/
section
variable {p : Int} {n k : Nat}
end
end Lj
set_option Elab.async false
set_option linter.all false
set_option maxRecDepth 100000
set_option pp.maxSteps 500
set_option pp.deepTerms.threshold 8
set_option pp.deepTerms false
namespace Lj
open PySem PySem.Spec PyProof.Rows L2
/-! ### a program without its writes -/
mutual
def Tr.sil : Tr → List Tr
  | .op z as => if z = "write" then [] else [.op z as]
  | .loop k b => [.loop k (sils b)]
def sils : List Tr → List Tr
  | [] => []
  | t :: r => t.sil ++ sils r
end
theorem sils_app : ∀ a b : List Tr, sils (a ++ b) = sils a ++ sils b
  | [], b => by rw [List.nil_append, sils, List.nil_append]
  | t :: a, b => by rw [List.cons_append, sils, sils, sils_app a b, List.append_assoc]
theorem sils_one (t : Tr) : sils [t] = t.sil := by rw [sils, sils, List.append_nil]
theorem sil_len : ∀ b : List Tr, (sils b).length ≤ b.length
  | [] => Nat.le_refl _
  | t :: r => by
    have ih := sil_len r
    rw [sils, List.length_append, List.length_cons]
    cases t with
    | op z as =>
      rw [Tr.sil]
      split
      · show 0 + _ ≤ _
        omega
      · show 1 + _ ≤ _
        omega
    | loop k b =>
      rw [Tr.sil]
      show 1 + _ ≤ _
      omega
theorem wfs_app : ∀ {a b : List Tr} {n : Nat}, wfs a n → wfs b n → wfs (a ++ b) n
  | [], b, n, _, h => h
  | t :: r, b, n, h, k => by
    rw [wfs] at h
    rw [List.cons_append, wfs]
    exact ⟨h.1, wfs_app h.2 k⟩
mutual
theorem Tr.sil_wf : ∀ (t : Tr) (n : Nat), t.wf n → wfs t.sil n
  | .op z as, n, h => by
    rw [Tr.sil]
    split
    · rw [wfs]; trivial
    · rw [wfs, wfs]
      exact ⟨h, trivial⟩
  | .loop k b, 0, h => by
    rw [Tr.wf] at h
    exact h.elim
  | .loop k b, n + 1, h => by
    rw [Tr.wf] at h
    rw [Tr.sil, wfs, wfs, Tr.wf]
    exact ⟨⟨h.1, h.2.1, by have := sil_len b; omega, sils_wf b n h.2.2.2⟩, trivial⟩
theorem sils_wf : ∀ (b : List Tr) (n : Nat), wfs b n → wfs (sils b) n
  | [], n, _ => by
    rw [sils, wfs]
    trivial
  | t :: r, n, h => by
    rw [wfs] at h
    rw [sils]
    exact wfs_app (Tr.sil_wf t n h.1) (sils_wf r n h.2)
end
theorem sils_ok {n : Nat} {b : List Tr} (h : okB n b) : okB n (sils b) := by
  cases n with
  | zero => exact h
  | succ n => exact ⟨sils_wf b n h.1, by have := sil_len b; have := h.2; omega⟩
end Lj
set_option Elab.async false
set_option linter.all false
set_option maxRecDepth 100000
namespace Lj
open PySem PySem.Spec PyProof.Rows L2
set_option maxRecDepth 8000 in
theorem extend_tup (l : Addr) (items : Array Value) (n : Nat) (b : Addr) (items2 : Array Value) (n2 : Nat) (dd : Option Addr) (sl : Array (Option Value)) (hs0 : ¬(!items.isEmpty && Builtin.List.listTooLong (items.size + items2.size)) = true) (hs1 : items.size ≤ sizeLine) (hs2 : items.size + items2.size ≤ sizeLine + 1) :
    Meets (Builtin.«list.extend» ⟨[.ref l, .ref b], []⟩) (fun _ R s => s.heap.get? l = some { cls := .type "list", dict := none, data := .seq items n, slots := #[] } ∧ s.heap.get? b = some { cls := .type "tuple", dict := dd, data := .seq items2 n2, slots := sl } ∧ R (.ok (.ret Value.none)) { s with heap := s.heap.update l (Obj.mapSeq fun x => x ++ items2), toks := s.toks }) :=
  .of_wp fun prog w A R s h => by
    obtain ⟨hp, g, d, tk, os⟩ := s; obtain ⟨hl, hb, h⟩ := h; have f1 := AutoSeq1.idx_int; have f2 := AutoSeq1.sub_tuple_tuple; have f3 := AutoSeq1.sub_list_list; have f4 := AutoSeq1.sub_tuple_list; have f5 := AutoSeq1.sub_list_tuple;
    have hz' : (items ++ items2).size ≤ sizeLine + 1 := by rw [Array.size_append]; exact hs2
    wp_walk using (wpAny_updateSeq hl rfl (hz := hs1) (_hz' := hz')), wpAny_loadPart' hl, wpAny_loadPart' hb; exact ⟨_, rfl, h⟩
def rExtT (K : PySem.W.Frag) : V → List V → Hp → VK → Prop := fun x vs H Q => ∃ l b xs zs, x = .ref l ∧ vs = [.ref b] ∧ H l = some (.lst xs) ∧ SqT K H b zs ∧ xs.length + zs.length ≤ sizeLine ∧ Q .non (upd H l (.lst (xs ++ zs)))
/-- xs.extend(t), t a tuple -/
theorem mt_extendT {X : Cx} : MtM X "list.extend" (rExtT X.K) := by
  intro pins s σ H x vs v us Q I rx rv h
  obtain ⟨l, b, xs, zs, rfl, rfl, hH, hB, hz, q⟩ := h
  cases rx
  obtain ⟨u, rfl, ru⟩ := rv.one
  cases ru
  obtain ⟨z, its, n, r, hl, e⟩ := I.lstM hH
  obtain ⟨its2, r2, ⟨⟨cls, dd, data, sl⟩, e2, hc, n2, hd⟩, z2⟩ := I.tuple hB
  simp only at hc hd
  subst hc hd
  have hl2 := r2.length
  have hsz : its.toArray.size + its2.toArray.size ≤ sizeLine := by rw [List.size_toArray, List.size_toArray]; omega
  have hlong : ¬ (!its.toArray.isEmpty && Builtin.List.listTooLong (its.toArray.size + its2.toArray.size)) = true := by
    rw [notLongL hsz, Bool.and_false]
    exact Bool.false_ne_true
  refine call_meets F.slot_list_extend ⟨_, e, rfl⟩ F.entry_list_extend (F.args_list_extend_2 _ _)
    (extend_tup l its.toArray n b its2.toArray n2 dd sl hlong (by rw [List.size_toArray]; omega) (by omega)) ⟨e, e2, ?_⟩
  refine ⟨.non, _, I.lset (its' := its ++ its2) hH e (by simp) (r.append r2) ?_, rfl, q⟩
  rw [List.length_append]
  omega
end Lj
set_option Elab.async false
set_option linter.all false
set_option maxRecDepth 100000
set_option pp.maxSteps 500
set_option pp.deepTerms.threshold 8
set_option pp.deepTerms false
namespace K32
open PySem PySem.Spec PyProof.Rows L2 Lj
def topS (i : Nat) : Stmt := PySem.Challenge.pw_leastjournal_k32_programs_too_long_or_to.main.body.getD i (.Pass ⟨0, 0, 0, 0⟩)
abbrev sInverse : Stmt := topS 6
theorem scInverse : FnScope ["p", "a", "high", "high_share", "low", "low_share", "quotient"] ["p", "a"] (defScope sInverse) := ⟨rfl, rfl, rfl, by decide +kernel, rfl, by decide +kernel, by decide +kernel⟩
abbrev sPrank : Stmt := topS 7
abbrev sWeights : Stmt := topS 8
theorem scWeights : FnScope ["p", "rows", "row", "leading", "found", "column", "equation", "later", "k"] ["p", "rows", "row"] (defScope sWeights) := ⟨rfl, rfl, rfl, by decide +kernel, rfl, by decide +kernel, by decide +kernel⟩
abbrev sEquations : Stmt := topS 9
theorem scEquations : FnScope ["rows", "row", "place", "known"] ["rows", "row"] (defScope sEquations) := ⟨rfl, rfl, rfl, by decide +kernel, rfl, by decide +kernel, by decide +kernel⟩
abbrev sEchelon : Stmt := topS 10
theorem scEchelon : FnScope ["p", "rows", "leading", "row", "rest", "column"] ["p", "rows"] (defScope sEchelon) := ⟨rfl, rfl, rfl, by decide +kernel, rfl, by decide +kernel, by decide +kernel⟩
abbrev sTimes : Stmt := topS 11
theorem scTimes : FnScope ["p", "factor", "row", "a"] ["p", "factor", "row"] (defScope sTimes) := ⟨rfl, rfl, rfl, by decide +kernel, rfl, by decide +kernel, by decide +kernel⟩
abbrev sLess : Stmt := topS 12
theorem scLess : FnScope ["p", "row", "factor", "other", "a", "b"] ["p", "row", "factor", "other"] (defScope sLess) := ⟨rfl, rfl, rfl, by decide +kernel, rfl, by decide +kernel, by decide +kernel⟩
abbrev sDot : Stmt := topS 13
abbrev sSize : Stmt := topS 15
theorem scSize : FnScope ["program", "total", "instruction"] ["program"] (defScope sSize) := ⟨rfl, rfl, rfl, by decide +kernel, rfl, by decide +kernel, by decide +kernel⟩
abbrev sDepth : Stmt := topS 16
theorem scDepth : FnScope ["program", "deepest", "instruction"] ["program"] (defScope sDepth) := ⟨rfl, rfl, rfl, by decide +kernel, rfl, by decide +kernel, by decide +kernel⟩
abbrev sRead_count : Stmt := topS 17
theorem scRead_count : FnScope ["program"] ["program"] (defScope sRead_count) := ⟨rfl, rfl, rfl, by decide +kernel, rfl, by decide +kernel, by decide +kernel⟩
abbrev sWrite_count : Stmt := topS 18
theorem scWrite_count : FnScope ["program"] ["program"] (defScope sWrite_count) := ⟨rfl, rfl, rfl, by decide +kernel, rfl, by decide +kernel, by decide +kernel⟩
abbrev sWord_count : Stmt := topS 19
theorem scWord_count : FnScope ["program", "word", "total", "instruction"] ["program", "word"] (defScope sWord_count) := ⟨rfl, rfl, rfl, by decide +kernel, rfl, by decide +kernel, by decide +kernel⟩
abbrev sUnit : Stmt := topS 21
theorem scUnit : FnScope ["many", "place", "row"] ["many", "place"] (defScope sUnit) := ⟨rfl, rfl, rfl, by decide +kernel, rfl, by decide +kernel, by decide +kernel⟩
abbrev sOverwritten : Stmt := topS 22
theorem scOverwritten : FnScope ["instruction", "word"] ["instruction"] (defScope sOverwritten) := ⟨rfl, rfl, rfl, by decide +kernel, rfl, by decide +kernel, by decide +kernel⟩
abbrev sCleared : Stmt := topS 23
abbrev sPexecuted : Stmt := topS 24
theorem scPexecuted : FnScope ["p", "instruction", "row", "after", "word", "x", "y"] ["p", "instruction", "row"] (defScope sPexecuted) := ⟨rfl, rfl, rfl, by decide +kernel, rfl, by decide +kernel, by decide +kernel⟩
abbrev sUnits : Stmt := topS 28
theorem scUnits : FnScope ["n", "place"] ["n"] (defScope sUnits) := ⟨rfl, rfl, rfl, by decide +kernel, rfl, by decide +kernel, by decide +kernel⟩
abbrev sProduct : Stmt := topS 29
abbrev sPieces : Stmt := topS 30
abbrev sGather : Stmt := topS 31
abbrev sGather_part : Stmt := topS 32
abbrev sBackward : Stmt := topS 36
theorem scBackward : FnScope ["p", "n", "program", "back", "rows"] ["p", "n", "program"] (defScope sBackward) := ⟨rfl, rfl, rfl, by decide +kernel, rfl, by decide +kernel, by decide +kernel⟩
abbrev sSilent : Stmt := topS 37
theorem scSilent : FnScope ["program", "kept", "instruction"] ["program"] (defScope sSilent) := ⟨rfl, rfl, rfl, by decide +kernel, rfl, by decide +kernel, by decide +kernel⟩
abbrev sUndone : Stmt := topS 38
theorem scUndone : FnScope ["track", "rows", "groups", "here", "part", "group"] ["track", "rows"] (defScope sUndone) := ⟨rfl, rfl, rfl, by decide +kernel, rfl, by decide +kernel, by decide +kernel⟩
abbrev sUndone_part : Stmt := topS 39
theorem scUndone_part : FnScope ["part", "rows"] ["part", "rows"] (defScope sUndone_part) := ⟨rfl, rfl, rfl, by decide +kernel, rfl, by decide +kernel, by decide +kernel⟩
abbrev sLast_first : Stmt := topS 40
theorem scLast_first : FnScope ["groups", "found", "group"] ["groups"] (defScope sLast_first) := ⟨rfl, rfl, rfl, by decide +kernel, rfl, by decide +kernel, by decide +kernel⟩
abbrev sUndone_step : Stmt := topS 41
theorem scUndone_step : FnScope ["p", "instruction", "rows", "x", "back", "after", "row"] ["p", "instruction", "rows"] (defScope sUndone_step) := ⟨rfl, rfl, rfl, by decide +kernel, rfl, by decide +kernel, by decide +kernel⟩
abbrev sInverted : Stmt := topS 42
theorem scInverted : FnScope ["p", "instruction", "word"] ["p", "instruction"] (defScope sInverted) := ⟨rfl, rfl, rfl, by decide +kernel, rfl, by decide +kernel, by decide +kernel⟩
abbrev sRestored : Stmt := topS 43
theorem scRestored : FnScope ["p", "rows", "x", "columns", "wanted", "found", "adds", "place", "y", "weight", "row"] ["p", "rows", "x"] (defScope sRestored) := ⟨rfl, rfl, rfl, by decide +kernel, rfl, by decide +kernel, by decide +kernel⟩
abbrev sSpanning : Stmt := topS 44
theorem scSpanning : FnScope ["p", "rows"] ["p", "rows"] (defScope sSpanning) := ⟨rfl, rfl, rfl, by decide +kernel, rfl, by decide +kernel, by decide +kernel⟩
abbrev sUndone_quiet_loop : Stmt := topS 45
abbrev sSettled : Stmt := topS 46
abbrev sUndone_reading_loop : Stmt := topS 47
abbrev sAlike : Stmt := topS 48
abbrev sRepeated : Stmt := topS 49
abbrev sPot : Stmt := topS 51
theorem scPot : FnScope ["_law_script", "_law_k", "_law_cell", "_law_great"] ["_law_script", "_law_k"] (defScope sPot) := ⟨rfl, rfl, rfl, by decide +kernel, rfl, by decide +kernel, by decide +kernel⟩
abbrev sTake : Stmt := topS 52
theorem scTake : FnScope ["_law_pot_here", "_law_many", "_law_digit", "_law_prime", "_law_drawn"] ["_law_pot_here", "_law_many"] (defScope sTake) := ⟨rfl, rfl, rfl, by decide +kernel, rfl, by decide +kernel, by decide +kernel⟩
abbrev sOf : Stmt := topS 53
theorem scOf : FnScope ["_law_pot_here", "_law_some"] ["_law_pot_here", "_law_some"] (defScope sOf) := ⟨rfl, rfl, rfl, by decide +kernel, rfl, by decide +kernel, by decide +kernel⟩
abbrev sPlain : Stmt := topS 54
theorem scPlain : FnScope ["_law_pot_here", "_law_prime", "_law_wide", "_law_words", "_law_word", "_law_x", "_law_c", "_law_y"] ["_law_pot_here", "_law_prime", "_law_wide", "_law_words"] (defScope sPlain) := ⟨rfl, rfl, rfl, by decide +kernel, rfl, by decide +kernel, by decide +kernel⟩
abbrev sRefused : Stmt := topS 55
theorem scRefused : FnScope ["_law_call", "_law_caught", "error"] ["_law_call"] (defScope sRefused) := ⟨rfl, rfl, rfl, by decide +kernel, rfl, by decide +kernel, by decide +kernel⟩
abbrev sNested : Stmt := topS 56
theorem scNested : FnScope ["_law_pot_here", "_law_deep", "_law_rounds", "_law_found", "_law_turn"] ["_law_pot_here", "_law_deep", "_law_rounds"] (defScope sNested) := ⟨rfl, rfl, rfl, by decide +kernel, rfl, by decide +kernel, by decide +kernel⟩
abbrev sRight : Stmt := topS 57
theorem scRight : FnScope ["_law_pot_here", "_law_turn", "_law_deep", "_law_many", "_law_words", "_law_due", "_law_found", "_law_prime", "_law_wide", "_law_at"] ["_law_pot_here"] (defScope sRight) := ⟨rfl, rfl, rfl, by decide +kernel, rfl, by decide +kernel, by decide +kernel⟩
abbrev sLaw : Stmt := topS 58
theorem scLaw : FnScope ["_law_script", "_law_k"] ["_law_script"] (defScope sLaw) := ⟨rfl, rfl, rfl, by decide +kernel, rfl, by decide +kernel, by decide +kernel⟩
abbrev sTrack_init : Stmt := inClass (topS 26) 0
theorem scTrack_init : FnScope ["self", "p", "n", "program", "instruction", "part"] ["self", "p", "n", "program"] (defScope sTrack_init) := ⟨rfl, rfl, rfl, by decide +kernel, rfl, by decide +kernel, by decide +kernel⟩
abbrev sPart_init : Stmt := inClass (topS 27) 0
theorem scPart_init : FnScope ["self", "p", "n", "instruction"] ["self", "p", "n", "instruction"] (defScope sPart_init) := ⟨rfl, rfl, rfl, by decide +kernel, rfl, by decide +kernel, by decide +kernel⟩
abbrev sPart_after : Stmt := inClass (topS 27) 1
abbrev sPart_before : Stmt := inClass (topS 27) 2
abbrev sPart_factors : Stmt := inClass (topS 27) 3
abbrev sPart_binary : Stmt := inClass (topS 27) 4
abbrev sPart_square : Stmt := inClass (topS 27) 5
abbrev sPart_behind_body : Stmt := inClass (topS 27) 6
theorem take_all {α : Type} (b : List α) : b.take b.length = b := List.take_length
end K32
set_option Elab.async false
set_option linter.all false
set_option maxRecDepth 100000
set_option pp.maxSteps 500
set_option pp.deepTerms.threshold 8
set_option pp.deepTerms false
namespace K32
open PySem PySem.Spec PyProof.Rows L2 Lj
section
variable {P : Program} {w : World} {K : PySem.W.Frag} {mg : Str → Option Value} {base : Heap} {CT CP : Addr}
/-! ### gather, gather_part, pieces -/
theorem okB_one {d : Nat} {b : List Tr} {i : Nat} {t : Tr} (ok : okB (d + 1) b) (ht : b[i]? = some t) : okB (d + 1) [t] := ⟨by rw [wfs, wfs]; exact ⟨wfs_get ok.1 ht, trivial⟩, by show 1 ≤ 1000; decide⟩
end
section
variable {P : Program} {w : World} {K : PySem.W.Frag} {mg : Str → Option Value} {base : Heap} {CT CP : Addr}
/-! ### unit, units, product -/
theorem flat_zero (n : Nat) : (List.replicate n [V.int 0]).flatten = (List.replicate n (0 : Int)).map V.int := by
  induction n with
  | zero => rfl
  | succ n ih =>
    rw [List.replicate_succ, List.flatten_cons, ih, List.replicate_succ]
    rfl
theorem ok_unit (M : Bl mg) (F : At K mg "unit" sUnit ["many", "place"]) {k : Nat} : Has P w K mg base (k + 1) "unit" ["many", "place"] spUnit := by
  refine Has.by F scUnit (fun vs H Q E h => ?_) (fun f cdv A out s H vs Q E hg hr h => ?_)
  · obtain ⟨_, _, rfl, _⟩ := h
    rfl
  obtain ⟨N, j, rfl, hj, hN, q⟩ := h
  refine ⟨_, (pss_cons (ps_set (i := 2) scUnit.nd rfl (.inl rfl) (pe_op op_rep (pe_lst (pa_cons pe_int pa_nil)) (pv 0)))
  (pss_cons (ps_asg pe_int (pg_sub (pv 2) (pv 1) set_list))
  (pss_one (ps_ret (pv 2))))), ?_⟩
  refine ⟨(by show 1 ≤ sizeLine; decide), fun l nl => ?_⟩
  refine ⟨_, rfl, l, _, _, rfl, rfl, upd_same, by omega, by omega, ?_, fun fo nfo => ?_⟩
  · rw [sizeLine_eq]
    show 1 * _ ≤ _
    omega
  rw [show ((N : Nat) : Int).toNat = N by omega, flat_zero]
  have s1 : Same H (upd H l (.lst [V.int 0])) := same_new nl
  refine ⟨_, rfl, _, rfl, fo, _, (j : Int), j, rfl, rfl, upd_same, ?_, ?_⟩
  · unfold ixN
    rw [List.length_map, List.length_replicate, if_pos (by omega), if_pos (by omega)]
    rfl
  have n0 : H fo = none := s1.free nfo
  refine ⟨_, rfl, q _ fo (same_upd (same_upd s1 n0) n0) n0 ?_⟩
  rw [upd_same, un, List.map_set]
theorem ok_units (M : Bl mg) (F : At K mg "units" sUnits ["n"]) {k : Nat} (h : Has P w K mg base k "unit" ["many", "place"] spUnit) : Has P w K mg base (k + 1) "units" ["n"] spUnits := by
  obtain ⟨_, _, cUnit⟩ := h
  refine Has.by F scUnits (fun vs H Q E h => ?_) (fun f cdv A out s H vs Q E hg hr h => ?_)
  · obtain ⟨_, _, rfl, _⟩ := h
    rfl
  obtain ⟨n, _, rfl, rfl, hN, q⟩ := h
  refine ⟨_, (pss_one (ps_ret (pe_lc (own := [("place", 1)]) (g := gName 1) (by rfl) scUnits.nd (pi_range1 (by rfl) M.range_ (pa_cons (pe_op op_add (pv 0) pe_int) pa_nil)) (blkOk_by (own := [("place", 1)]) (N := ["n", "place"]) (sc := defScope sUnits) (by decide +kernel)) (fun _ _ _ _ _ => (pg_name (i := 1) scUnits.nd rfl (.inl rfl))) (fun _ _ _ _ _ => pts_nil) (fun _ _ _ _ _ => (pe_cal cUnit hg hr (by rfl) (pa_cons (pe_op op_add (pv 0) pe_int) (pa_cons (pv 1) pa_nil))))))), ?_⟩
  refine ⟨_, rfl, _, _, rfl, rfl, _, rfl, by omega, by omega, fun D nD => ?_⟩
  refine lc_range (lo := 0) (n := n + 1) (fun i H' => ∃ vs, H' D = some (.lst vs) ∧ RowsAt (nw (upd H D (.lst [])) H') ((List.range i).map (un (n + 1))) vs ∧ Same H H') ⟨[], upd_same, rfl, same_new nD⟩ ?_ ?_
  · rintro i H1 hi ⟨vs, e1, e2, e3⟩
    refine ⟨rfl, _, rfl, _, _, rfl, rfl, _, rfl, n + 1, i, ?_, hi, hN, fun H2 a s2 n2 h2 => ?_⟩
    · rw [Int.zero_add]
      rfl
    have na : D ≠ a := ne_of_none e1 n2
    have vl := e2.length
    rw [List.length_map, List.length_range] at vl
    refine ⟨vs, s2 _ _ e1, by rw [vl, sizeLine_eq]; omega, vs ++ [.ref a], upd_same, ?_, same_upd (e3.trans s2) nD⟩
    rw [List.range_succ, List.map_append]
    have up : Same (nw (upd H D (.lst [])) H1) (nw (upd H D (.lst [])) (upd H2 D (.lst (vs ++ [.ref a])))) := fun b o hb => by
      unfold nw at hb ⊢
      cases e : upd H D (.lst []) b with
      | some c => rw [e] at hb; cases hb
      | none =>
        rw [e] at hb
        have nb : b ≠ D := fun z => by
          subst z
          rw [upd_same] at e
          cases e
        show upd H2 D _ b = _
        rw [upd_ne nb]
        exact s2 _ _ hb
    refine (e2.same up).snoc ⟨a, rfl, ?_⟩
    have hn : upd H D (.lst []) a = none := by
      rw [upd_ne na.symm]
      exact e3.free n2
    rw [nw_at hn, upd_ne na.symm, h2]
  · rintro H1 ⟨vs, e1, e2, e3⟩
    refine q H1 (.ref D) e3 ⟨D, vs, rfl, by rw [nw_at nD]; exact e1, e2.same (nw_back (same_new nD))⟩
end
section
variable {P : Program} {w : World} {K : PySem.W.Frag} {mg : Str → Option Value} {base : Heap}
/-! ### executed -/
theorem ok_executed {f : Addr} {fd : FuncData} {k : Nat} (F : Fun K "executed" "executed" sPexecuted f fd) (M : Bl mg) : FnOk P w K mg base CX0 (k + 1) f fd ["p", "instruction", "row"] (spEx K) := by
  refine F.ok scPexecuted (fun vs H Q E h => ?_) (fun cdv A outer s H vs Q E hr h => ?_)
  · obtain ⟨p, n, z, as, v, l, r, rfl, _⟩ := h
    rfl
  obtain ⟨p, n, z, as, v, l, r, rfl, hT, go, nr, p0, p1, sq, rl, q⟩ := h
  rw [TrAt] at hT
  obtain ⟨a, rfl, sa⟩ := hT
  refine ⟨_, (pss_cons (ps_set (i := 3) scPexecuted.nd rfl (.inl rfl) (pe_callTy call_list_of (by rfl) M.list_ (by decide +kernel) (pa_cons (pv 2) pa_nil)))
  (pss_cons (ps_set (i := 4) scPexecuted.nd rfl (.inl rfl) (pe_ix ix_tup (pv 1) pe_int (fun _ _ => rfl)))
  (pss_cons (ps_set (i := 5) scPexecuted.nd rfl (.inl rfl) (pe_op op_add (pe_ix ix_tup (pv 1) pe_int (fun _ _ => rfl)) pe_int))
  (pss_cons (ps_if (pt_cmpR op_eq (pv 4) pe_str (nomark _))
    (pss_one (ps_asg (pe_op op_mod (pe_op op_mul (pe_ix ix_tup (pv 1) pe_int (fun _ _ => rfl)) (pe_ix ix_list (pv 2) pe_int (fun _ _ => rfl))) (pv 0)) (pg_sub (pv 3) (pv 5) set_list)))
    (pss_one (ps_if (pt_cmpR op_eq (pv 4) pe_str (nomark _))
    (pss_one (ps_asg (pe_op op_mod (pe_op op_mul (pe_ix ix_tup (pv 1) pe_int (fun _ _ => rfl)) (pe_ix ix_list (pv 2) (pv 5) (fun _ _ => rfl))) (pv 0)) (pg_sub (pv 3) (pv 5) set_list)))
    (pss_one (ps_if (pt_cmpR op_eq (pv 4) pe_str (nomark _))
    (pss_one (ps_asg (pe_ix ix_list (pv 2) (pe_op op_add (pe_ix ix_tup (pv 1) pe_int (fun _ _ => rfl)) pe_int) (fun _ _ => rfl)) (pg_sub (pv 3) (pv 5) set_list)))
    (pss_one (ps_if (pt_cmpR op_eq (pv 4) pe_str (nomark _))
    (pss_one (ps_asg (pe_op op_mod (pe_op op_add (pe_ix ix_list (pv 2) (pv 5) (fun _ _ => rfl)) (pe_op op_mul (pe_ix ix_tup (pv 1) pe_int (fun _ _ => rfl)) (pe_ix ix_list (pv 2) (pe_op op_add (pe_ix ix_tup (pv 1) pe_int (fun _ _ => rfl)) pe_int) (fun _ _ => rfl)))) (pv 0)) (pg_sub (pv 3) (pv 5) set_list)))
    (pss_one (ps_if (pt_cmpR op_eq (pv 4) pe_str (nomark _))
    (pss_cons (ps_set (i := 6) scPexecuted.nd rfl (.inl rfl) (pe_op op_add (pe_ix ix_tup (pv 1) pe_int (fun _ _ => rfl)) pe_int))
  (pss_one (ps_asg (pe_tup (pa_cons (pe_ix ix_list (pv 2) (pv 6) (fun _ _ => rfl)) (pa_cons (pe_ix ix_list (pv 2) (pv 5) (fun _ _ => rfl)) pa_nil))) (pg_tup rfl (pgs_cons (pg_sub (pv 3) (pv 5) set_list) (pgs_cons (pg_sub (pv 3) (pv 6) set_list) pgs_nil))))))
    pss_nil)))))))))
  (pss_one (ps_ret (pv 3))))))), ?_⟩
  refine ⟨_, rfl, l, _, rfl, .inl sq, fun m nm => ?_⟩
  have sm : Same H (upd H m (.lst (r.map V.int))) := same_new nm
  have sa := (Kt.same sm).sq sa
  have sq := sm.seq sq
  have pp : (0 : Int) < p := by omega
  have ln : (r.map V.int).length = r.length := List.length_map _
  have fin : ∀ r' : List Int, exRow p z as r = r' → Q (.ref m) (upd (upd H m (.lst (r.map V.int))) m (.lst (r'.map V.int))) := fun r' e => q _ m (same_upd sm nm) nm (by rw [upd_same, e])
  refine ⟨_, rfl, a, _, 0, .str z, rfl, rfl, sa, at0, ?_⟩
  rcases go with ⟨rfl | rfl, x, c, rfl, x0, x1, c0, c1⟩ | ⟨rfl | rfl, x, rfl, x0, x1⟩ | ⟨rfl | rfl, x, y, rfl, x0, x1, y0, y1, xy⟩ | ⟨rfl, x, y, c, rfl, x0, x1, y0, y1, xy, c0, c1⟩
  · -- set
    refine ⟨_, rfl, a, _, 1, .int x, rfl, rfl, sa, rfl, _, _, rfl, rfl, ?_⟩
    refine ⟨_, rfl, rfl, _, rfl, iteP rfl ?_⟩
    refine ⟨_, rfl, a, _, 2, .int c, rfl, rfl, sa, rfl, _, rfl, l, _, 0, _, rfl, rfl, sq, at_gt (by decide) (by omega), c, _, rfl, rfl, .inl ⟨by omega, by omega⟩, _, rfl, _, p, rfl, rfl, pp, ?_⟩
    refine ⟨_, rfl, _, rfl, m, _, x + 1, (x + 1).toNat, rfl, rfl, upd_same, ix_sv (by omega) (by omega), ?_⟩
    rw [map_sv]
    exact ⟨_, rfl, fin _ (ex_set _ _ _ _)⟩
  · -- scale
    refine ⟨_, rfl, a, _, 1, .int x, rfl, rfl, sa, rfl, _, _, rfl, rfl, ?_⟩
    refine ⟨_, rfl, rfl, _, rfl, iteN (by decide) ?_⟩
    refine ⟨_, rfl, rfl, _, rfl, iteP rfl ?_⟩
    refine ⟨_, rfl, a, _, 2, .int c, rfl, rfl, sa, rfl, _, rfl, _, rfl, l, _, x + 1, _, rfl, rfl, sq, at_gt (by omega) (by omega), c, _, rfl, rfl, .inl ⟨by omega, by omega⟩, _, rfl, _, p, rfl, rfl, pp, ?_⟩
    refine ⟨_, rfl, _, rfl, m, _, x + 1, (x + 1).toNat, rfl, rfl, upd_same, ix_sv (by omega) (by omega), ?_⟩
    rw [map_sv]
    exact ⟨_, rfl, fin _ (ex_scale _ _ _ _)⟩
  · exact absurd rfl nr
  · -- write
    refine ⟨_, rfl, a, _, 1, .int x, rfl, rfl, sa, rfl, _, _, rfl, rfl, ?_⟩
    refine ⟨_, rfl, rfl, _, rfl, iteN (by decide) ?_⟩
    refine ⟨_, rfl, rfl, _, rfl, iteN (by decide) ?_⟩
    refine ⟨_, rfl, rfl, _, rfl, iteN (by decide) ?_⟩
    refine ⟨_, rfl, rfl, _, rfl, iteN (by decide) ?_⟩
    refine ⟨_, rfl, rfl, _, rfl, iteN (by decide) ?_⟩
    exact ⟨_, rfl, q _ m sm nm upd_same⟩
  · -- copy
    refine ⟨_, rfl, a, _, 1, .int x, rfl, rfl, sa, rfl, _, _, rfl, rfl, ?_⟩
    refine ⟨_, rfl, rfl, _, rfl, iteN (by decide) ?_⟩
    refine ⟨_, rfl, rfl, _, rfl, iteN (by decide) ?_⟩
    refine ⟨_, rfl, rfl, _, rfl, iteP rfl ?_⟩
    refine ⟨_, rfl, _, rfl, a, _, 2, .int y, rfl, rfl, sa, rfl, _, _, rfl, rfl, l, _, y + 1, _, rfl, rfl, sq, at_gt (by omega) (by omega), ?_⟩
    refine ⟨_, rfl, _, rfl, m, _, x + 1, (x + 1).toNat, rfl, rfl, upd_same, ix_sv (by omega) (by omega), ?_⟩
    rw [map_sv]
    exact ⟨_, rfl, fin _ (ex_copy _ _ _ _)⟩
  · -- swap
    refine ⟨_, rfl, a, _, 1, .int x, rfl, rfl, sa, rfl, _, _, rfl, rfl, ?_⟩
    refine ⟨_, rfl, rfl, _, rfl, iteN (by decide) ?_⟩
    refine ⟨_, rfl, rfl, _, rfl, iteN (by decide) ?_⟩
    refine ⟨_, rfl, rfl, _, rfl, iteN (by decide) ?_⟩
    refine ⟨_, rfl, rfl, _, rfl, iteN (by decide) ?_⟩
    refine ⟨_, rfl, rfl, _, rfl, iteP rfl ?_⟩
    refine ⟨_, rfl, a, _, 2, .int y, rfl, rfl, sa, rfl, _, _, rfl, rfl, ?_⟩
    refine ⟨_, rfl, _, rfl, l, _, y + 1, _, rfl, rfl, sq, at_gt (by omega) (by omega), _, rfl, _, rfl, l, _, x + 1, _, rfl, rfl, sq, at_gt (by omega) (by omega), ?_⟩
    refine ⟨(by show 2 ≤ sizeLine; decide), fun t nt => ?_⟩
    have nmt : m ≠ t := ne_of_none upd_same nt
    have st : Same (upd H m (.lst (r.map V.int))) (upd (upd H m (.lst (r.map V.int))) t (.tup [.int (gt r (y + 1)), .int (gt r (x + 1))])) := same_new nt
    refine ⟨t, _, rfl, SqT.of upd_same, rfl, _, _, rfl, ?_⟩
    refine ⟨_, rfl, _, rfl, m, _, x + 1, (x + 1).toNat, rfl, rfl, st _ _ upd_same, ix_sv (by omega) (by omega), ?_⟩
    rw [map_sv]
    refine ⟨_, _, rfl, _, rfl, _, rfl, m, _, y + 1, (y + 1).toNat, rfl, rfl, upd_same, ?_, ?_⟩
    · rw [List.length_map, sv_len]
      exact ix_sv (by omega) (by omega)
    rw [map_sv]
    refine ⟨rfl, _, rfl, q _ m (same_upd (same_upd (sm.trans st) nm) nm) nm ?_⟩
    rw [upd_same, ex_swap]
  · -- add
    refine ⟨_, rfl, a, _, 1, .int x, rfl, rfl, sa, rfl, _, _, rfl, rfl, ?_⟩
    refine ⟨_, rfl, rfl, _, rfl, iteN (by decide) ?_⟩
    refine ⟨_, rfl, rfl, _, rfl, iteN (by decide) ?_⟩
    refine ⟨_, rfl, rfl, _, rfl, iteN (by decide) ?_⟩
    refine ⟨_, rfl, rfl, _, rfl, iteP rfl ?_⟩
    refine ⟨_, rfl, _, rfl, l, _, x + 1, _, rfl, rfl, sq, at_gt (by omega) (by omega), _, rfl, a, _, 3, .int c, rfl, rfl, sa, rfl, _, rfl, _, rfl, a, _, 2, .int y, rfl, rfl, sa, rfl, _, _, rfl, rfl, l, _, y + 1, _, rfl, rfl, sq, at_gt (by omega) (by omega), c, _, rfl, rfl, .inl ⟨by omega, by omega⟩, _, _, rfl, rfl, _, rfl, _, p, rfl, rfl, pp, ?_⟩
    refine ⟨_, rfl, _, rfl, m, _, x + 1, (x + 1).toNat, rfl, rfl, upd_same, ix_sv (by omega) (by omega), ?_⟩
    rw [map_sv]
    exact ⟨_, rfl, fin _ (ex_add _ _ _ _ _)⟩
end
section
variable {P : Program} {w : World} {K : PySem.W.Frag} {mg : Str → Option Value} {base : Heap} {CT CP : Addr}
theorem has_executed (M : Bl mg) (F : At K mg "executed" sPexecuted ["p", "instruction", "row"]) : Has P w K mg base 1 "executed" ["p", "instruction", "row"] (spEx K) := by
  obtain ⟨f, fd, F, b, g⟩ := F
  exact ⟨f, fd, .of (ok_executed F M), F.kp, b, g, fun_lk F⟩
end
section
variable {P : Program} {w : World} {K : PySem.W.Frag} {mg : Str → Option Value} {base : Heap} {CT CP : Addr}
end
section
variable {P : Program} {w : World} {K : PySem.W.Frag} {mg : Str → Option Value} {base : Heap} {CT CP : Addr}
end
end K32
set_option Elab.async false
set_option linter.all false
set_option maxRecDepth 100000
set_option pp.maxSteps 500
set_option pp.deepTerms.threshold 8
set_option pp.deepTerms false
namespace K32
open PySem PySem.Spec PyProof.Rows L2 Lj
section
variable {P : Program} {w : World} {K : PySem.W.Frag} {mg : Str → Option Value} {base : Heap} {CT CP : Addr}
end
section
variable {P : Program} {w : World} {K : PySem.W.Frag} {mg : Str → Option Value} {base : Heap} {CT CP : Addr}
end
section
variable {P : Program} {w : World} {K : PySem.W.Frag} {mg : Str → Option Value} {base : Heap} {CT CP : Addr}
/-! ### all depths -/
structure PMs (K : PySem.W.Frag) (CP : Addr) : Prop where
  after : MAt K CP "after" "Part.after" sPart_after ["self", "rounds", "row"]
  before : MAt K CP "before" "Part.before" sPart_before ["self", "rounds", "row"]
  factors : MAt K CP "factors" "Part.factors" sPart_factors ["self", "rounds"]
  binary : MAt K CP "binary" "Part.binary" sPart_binary ["self", "rounds"]
  square : MAt K CP "square" "Part.square" sPart_square ["self", "at"]
  behind : MAt K CP "behind_body" "Part.behind_body" sPart_behind_body ["self", "row"]
structure TFs (K : PySem.W.Frag) (mg : Str → Option Value) : Prop where
  unit : At K mg "unit" sUnit ["many", "place"]
  units : At K mg "units" sUnits ["n"]
  product : At K mg "product" sProduct ["p", "row", "matrix"]
  pieces : At K mg "pieces" sPieces ["track", "start", "stop"]
  gather : At K mg "gather" sGather ["track", "start", "stop", "offset", "found"]
  gpart : At K mg "gather_part" sGather_part ["part", "low", "high", "offset", "found"]
  executed : At K mg "executed" sPexecuted ["p", "instruction", "row"]
  dotF : At K mg "dot" sDot ["p", "row", "other"]
theorem has_units (M : Bl mg) (F : TFs K mg) {k : Nat} : Has P w K mg base (k + 2) "units" ["n"] spUnits := ok_units M F.units (ok_unit M F.unit)
end
end K32
set_option Elab.async false
set_option linter.all false
set_option maxRecDepth 100000
set_option pp.maxSteps 500
set_option pp.deepTerms.threshold 8
set_option pp.deepTerms false
namespace K32
open PySem PySem.Spec PyProof.Rows L2 Lj
section
variable {P : Program} {w : World} {K : PySem.W.Frag} {mg : Str → Option Value} {base : Heap} {CT CP : Addr}
theorem ok_pinit (M : Bl mg) (F : KAt K mg CP "Part" "Part.__init__" sPart_init ["self", "p", "n", "instruction"]) (TT : TTxt K mg CT) (PT : PTxt K mg CP) {d k : Nat} (h : KHas P w K mg base k CT "Track" ["self", "p", "n", "program"] (spTInit K CT CP d)) :
    KHas P w K mg base (k + 2) CP "Part" ["self", "p", "n", "instruction"] (spPInit K CT CP (d + 1)) := by
  obtain ⟨_, _, cTrack⟩ := h
  refine KHas.by F scPart_init (fun vs H Q E h => ?_) (fun f cdv A out s H vs Q E hg hr h => ?_)
  · obtain ⟨_, _, _, _, _, _, _, _, _, rfl, _⟩ := h
    rfl
  obtain ⟨p, n, N, G, H0, x, dx, v, t, rfl, sm, nx, hx, I, hT, ok, qq⟩ := h
  refine ⟨_, (pss_cons (ps_fld (pv 0) (pv 1) rfl)
  (pss_cons (ps_fld (pv 0) (pv 2) rfl)
  (pss_cons (ps_fld (pv 0) (pv 3) rfl)
  (pss_cons (ps_fld (pv 0) pe_int rfl)
  (pss_cons (ps_fld (pv 0) pe_non rfl)
  (pss_cons (ps_if (pt_cmpR op_eq (pe_ix ix_tup (pv 3) pe_int (fun _ _ => rfl)) pe_str (nomark _))
    (pss_cons (ps_fld (pv 0) (pe_kcal cTrack hg hr (by rfl) (pa_cons (pv 1) (pa_cons (pv 2) (pa_cons (pe_ix ix_tup (pv 3) pe_int (fun _ _ => rfl)) pa_nil)))) rfl)
  (pss_one (ps_fld (pv 0) (pe_op op_mul (pe_ix ix_tup (pv 3) pe_int (fun _ _ => rfl)) (pe_fld (pe_fld (pv 0) rfl) rfl)) rfl)))
    pss_nil)
  (pss_cons (ps_fld (pv 0) (pe_lst pa_nil) rfl)
  (pss_one (ps_fld (pv 0) pe_non rfl))))))))), ?_⟩
  refine ⟨_, rfl, _, rfl, x, CP, dx, _, rfl, hx, PT.cl, PT.nP, (by show 0 < 1000; decide), ?_⟩
  refine ⟨_, rfl, _, rfl, x, CP, dx, _, rfl, upd_same, PT.cl, PT.nN, (by show 1 < 1000; decide), ?_⟩
  refine ⟨_, rfl, _, rfl, x, CP, dx, _, rfl, upd_same, PT.cl, PT.nI, (by show 2 < 1000; decide), ?_⟩
  refine ⟨_, rfl, x, CP, dx, _, rfl, upd_same, PT.cl, PT.nS, (by show 3 < 1000; decide), ?_⟩
  refine ⟨_, rfl, x, CP, dx, _, rfl, upd_same, PT.cl, PT.nB, (by show 4 < 1000; decide), ?_⟩
  rw [updd, updd, updd, updd]
  have s5 : ∀ o, Same H0 (upd H x o) := fun o => same_upd sm nx
  have kt : ∀ o, Kt (wg G H0) (upd H x o) := fun o => Kt.same (wg_on.trans (s5 o))
  have hT0 := hT
  cases t with
  | op z as =>
    rw [TrAt] at hT
    obtain ⟨a, rfl, sa⟩ := hT
    refine ⟨_, rfl, a, _, 0, .str z, rfl, rfl, (kt _).sq sa, at0, rfl, _, rfl, iteN (fun e => okB_op (i := 0) ok rfl (V.str.inj e)) ?_⟩
    refine ⟨Nat.zero_le _, fun q nq => ?_⟩
    have ne : q ≠ x := (ne_of_none upd_same nq).symm
    have hq : H q = none := by rw [upd_ne ne] at nq; exact nq
    have hq0 : H0 q = none := sm.free hq
    refine ⟨_, rfl, x, CP, dx, _, rfl, (upd_ne ne.symm).trans upd_same, PT.cl, PT.nQ, (by show 5 < 1000; decide), ?_⟩
    refine ⟨_, rfl, x, CP, dx, _, rfl, upd_same, PT.cl, PT.nW, (by show 6 < 1000; decide), ?_⟩
    rw [updd]
    have gr := gp_grow (dx := dx) (v := .ref a) (t := .op z as) (b := .non) I nx hq0
    have sc : Same H0 (upd (upd H0 q (.lst [])) x (.ins CP dx (pf p n (.ref a) (Tr.len (.op z as)) .non q .non))) := same_upd (same_upd (Same.refl _) hq0) nx
    refine qq (gp G x q dx (.ref a) (.op z as) .non) (upd (upd H0 q (.lst [])) x (.ins CP dx (pf p n (.ref a) (Tr.len (.op z as)) .non q .non))) _ ⟨sc, core_fin sm nx, fun y o h => ?_, fun y o e h => ?_⟩ gr (I.part nx hq0 ne) ?_
    · by_cases e : y = x
      · exact .inr (.inr e)
      · rw [upd_ne e] at h
        by_cases e2 : y = q
        · exact .inr (.inl (e2 ▸ hq))
        · rw [upd_ne e2] at h
          exact .inl h
    · have e2 : y ≠ q := fun z => by
        rw [z, hq] at h
        cases h
      exact (upd_ne e).trans ((upd_ne e2).trans ((upd_ne e).trans h))
    · rw [PtAt]
      exact ⟨x, dx, .ref a, q, rfl, gp_x, TrAt.kt (Kt.same (gr.wg sc)) _ _ hT0⟩
  | loop kk b =>
    rw [TrAt] at hT
    obtain ⟨a, c, us, rfl, sa, sc, r⟩ := hT
    obtain ⟨c0, c1, ok2⟩ := okB_loop (i := 0) ok rfl
    refine ⟨_, rfl, a, _, 0, .str "loop", rfl, rfl, (kt _).sq sa, rfl, rfl, _, rfl, iteP rfl ?_⟩
    refine ⟨_, rfl, _, rfl, _, rfl, a, _, 2, .ref c, rfl, rfl, (kt _).sq sa, rfl, fun y dy ny ndy ney => ?_⟩
    have hxy : y ≠ x := (ne_of_none upd_same ny).symm
    have hxd : dy ≠ x := (ne_of_none upd_same ndy).symm
    have hy : H y = none := by rw [upd_ne hxy] at ny; exact ny
    have hdy : H dy = none := by rw [upd_ne hxd] at ndy; exact ndy
    have y0 := sm.free hy
    refine ⟨p, n, N, G, H0, y, dy, .ref c, b, rfl, same_upd (same_upd (s5 _) (sm.free hdy)) y0, y0, upd_same, I, ⟨c, us, rfl, sc, r⟩, ok2, fun G1 Hc1 H2 co gr1 I1 tk => ⟨rfl, ?_⟩⟩
    have hx2 := co.d x _ hxy.symm ((upd_ne hxy.symm).trans ((upd_ne hxd.symm).trans upd_same))
    have hold : ∀ z o, z ≠ x → H z = some o → H2 z = some o := fun z o e h => by
      have e1 : z ≠ y := fun w => by rw [w, hy] at h; cases h
      have e2 : z ≠ dy := fun w => by rw [w, hdy] at h; cases h
      exact co.d z o e1 ((upd_ne e1).trans ((upd_ne e2).trans ((upd_ne e).trans h)))
    have c1x : Hc1 x = none := by
      cases e : Hc1 x with
      | none => rfl
      | some o =>
        rcases co.c x o e with h | h | h
        · rw [nx] at h
          cases h
        · rw [upd_ne hxy.symm, upd_ne hxd.symm, upd_same] at h
          cases h
        · exact absurd h hxy.symm
    have s2 : Same (wg G H0) H2 := (wg_on.trans co.a).trans co.b
    have tk0 := tk
    obtain ⟨tb, dt, l, vs, e, h1, h2, h3⟩ := tk
    cases e
    have hy2 := co.b _ _ (wg_on _ _ h1)
    refine ⟨_, rfl, x, CP, dx, _, rfl, hx2, PT.cl, PT.nB, (by show 5 < 1000; decide), ?_⟩
    have kt3 : ∀ o, Kt H2 (upd H2 x o) := fun o z xs h => by
      rcases h with h | ⟨w, h⟩
      · have e : z ≠ x := fun q => by rw [q, hx2] at h; cases h
        exact .inl ((upd_ne e).trans h)
      · have e : z ≠ x := fun q => by rw [q, hx2] at h; cases h
        exact .inr ⟨w, (upd_ne e).trans h⟩
    have kt2 : ∀ o, Kt (wg G H0) (upd H2 x o) := fun o => (Kt.same s2).trans (kt3 o)
    refine ⟨_, rfl, a, _, 1, .int kk, rfl, rfl, (kt2 _).sq sa, rfl, _, rfl, x, CP, dx, _, _, rfl, upd_same, PT.cl, PT.nB, rfl, y, CT, dt, _, _, rfl, (upd_ne hxy).trans hy2, TT.cl, TT.nS, tf_steps _ _ _ _ _ _, kk, _, rfl, rfl, .inl ⟨by omega, by omega⟩, ?_⟩
    refine ⟨_, rfl, x, CP, dx, _, rfl, upd_same, PT.cl, PT.nS, (by show 5 < 1000; decide), ?_⟩
    rw [updd]
    refine ⟨Nat.zero_le _, fun q nq => ?_⟩
    have ne : q ≠ x := (ne_of_none upd_same nq).symm
    have hq2 : H2 q = none := by rw [upd_ne ne] at nq; exact nq
    have hq1 : Hc1 q = none := co.b.free hq2
    have hq : H q = none := by
      cases e : H q with
      | none => rfl
      | some o =>
        rw [hold q o ne e] at hq2
        cases hq2
    refine ⟨_, rfl, x, CP, dx, _, rfl, (upd_ne ne.symm).trans upd_same, PT.cl, PT.nQ, (by show 5 < 1000; decide), ?_⟩
    refine ⟨_, rfl, x, CP, dx, _, rfl, upd_same, PT.cl, PT.nW, (by show 6 < 1000; decide), ?_⟩
    rw [updd]
    have gr := gp_grow (dx := dx) (v := .ref a) (t := .loop kk b) (b := .ref y) I1 c1x hq1
    have sc1 : Same Hc1 (upd (upd Hc1 q (.lst [])) x (.ins CP dx (pf p n (.ref a) (Tr.len (.loop kk b)) (.ref y) q .non))) := same_upd (same_upd (Same.refl _) hq1) c1x
    have el : Tr.len (.loop kk b) = kk * lens b := by rw [Tr.len]
    refine qq (gp G1 x q dx (.ref a) (.loop kk b) (.ref y)) (upd (upd Hc1 q (.lst [])) x (.ins CP dx (pf p n (.ref a) (Tr.len (.loop kk b)) (.ref y) q .non))) _ ⟨co.a.trans sc1, ?_, fun z o h => ?_, fun z o e h => ?_⟩ (gr1.trans co.a gr) (I1.part c1x hq1 ne) ?_
    · rw [el]
      exact core_fin co.b c1x
    · by_cases e : z = x
      · exact .inr (.inr e)
      · rw [upd_ne e] at h
        by_cases e2 : z = q
        · exact .inr (.inl (e2 ▸ hq))
        · rw [upd_ne e2] at h
          rcases co.c z o h with h | h | h
          · exact .inl h
          · refine .inr (.inl ?_)
            have e3 : z ≠ y := fun w => by rw [w, upd_same] at h; cases h
            rw [upd_ne e3] at h
            have e4 : z ≠ dy := fun w => by rw [w, upd_same] at h; cases h
            rw [upd_ne e4, upd_ne e] at h
            exact h
          · exact .inr (.inl (h ▸ hy))
    · have e2 : z ≠ q := fun w => by
        rw [w, hq] at h
        cases h
      exact (upd_ne e).trans ((upd_ne e2).trans ((upd_ne e).trans (hold z o e h)))
    · rw [PtAt]
      have sw := gr.wg sc1
      exact ⟨x, dx, .ref a, q, y, dt, l, vs, rfl, gp_x, TrAt.kt (Kt.same ((gr1.wg co.a).trans sw)) _ _ hT0, sw _ _ h1, sw _ _ h2, PtsAt.mono gr.g sw _ _ h3⟩
end
section
variable {P : Program} {w : World} {K : PySem.W.Frag} {mg : Str → Option Value} {base : Heap} {CT CP : Addr}
theorem ok_tinit (M : Bl mg) (F : KAt K mg CT "Track" "Track.__init__" sTrack_init ["self", "p", "n", "program"]) (TT : TTxt K mg CT) (PT : PTxt K mg CP) {d k : Nat} (h : KHas P w K mg base k CP "Part" ["self", "p", "n", "instruction"] (spPInit K CT CP (d + 1))) (h2 : Has P w K mg base (k + 1) "read_count" ["program"] (spTI K (okB (d + 1)) (cnts "read"))) (h3 : Has P w K mg base (k + 1) "write_count" ["program"] (spTI K (okB (d + 1)) (cnts "write"))) :
    KHas P w K mg base (k + 2) CT "Track" ["self", "p", "n", "program"] (spTInit K CT CP (d + 1)) := by
  obtain ⟨_, _, cPart⟩ := h
  obtain ⟨_, _, cRead_count⟩ := h2
  obtain ⟨_, _, cWrite_count⟩ := h3
  refine KHas.by F scTrack_init (fun vs H Q E h => ?_) (fun f cdv A out s H vs Q E hg hr h => ?_)
  · obtain ⟨_, _, _, _, _, _, _, _, _, rfl, _⟩ := h
    rfl
  obtain ⟨p, n, N, G, H0, x, dx, v, b, rfl, sm, nx, hx, I, ⟨c, us, rfl, sq, r⟩, ok, qq⟩ := h
  refine ⟨_, (pss_cons (ps_fld (pv 0) (pv 1) rfl)
  (pss_cons (ps_fld (pv 0) (pv 2) rfl)
  (pss_cons (ps_fld (pv 0) (pe_lc (own := [("instruction", 4)]) (g := gName 4) (by rfl) scTrack_init.nd (pi_tup (pv 3)) (blkOk_by (own := [("instruction", 4)]) (N := ["self", "p", "n", "program", "instruction", "part"]) (sc := defScope sTrack_init) (by decide +kernel)) (fun _ _ _ _ _ => (pg_name (i := 4) scTrack_init.nd rfl (.inl rfl))) (fun _ _ _ _ _ => pts_nil) (fun _ _ _ _ _ => (pe_kcal cPart hg hr (by rfl) (pa_cons (pv 1) (pa_cons (pv 2) (pa_cons (pv 4) pa_nil)))))) rfl)
  (pss_cons (ps_fld (pv 0) (pe_callB (cr_sum rfl) (by rfl) M.sum_ (by decide +kernel) (pa_cons (pe_lc (own := [("part", 5)]) (g := gName 5) (by rfl) scTrack_init.nd (pi_list (pe_fld (pv 0) rfl)) (blkOk_by (own := [("part", 5)]) (N := ["self", "p", "n", "program", "instruction", "part"]) (sc := defScope sTrack_init) (by decide +kernel)) (fun _ _ _ _ _ => (pg_name (i := 5) scTrack_init.nd rfl (.inl rfl))) (fun _ _ _ _ _ => pts_nil) (fun _ _ _ _ _ => (pe_fldK (K := K) rfl (pv 5) rfl))) pa_nil)) rfl)
  (pss_cons (ps_fld (pv 0) (pe_cal cRead_count hg hr (by rfl) (pa_cons (pv 3) pa_nil)) rfl)
  (pss_one (ps_fld (pv 0) (pe_cmpR op_gt (pe_op op_add (pe_fld (pv 0) rfl) (pe_cal cWrite_count hg hr (by rfl) (pa_cons (pv 3) pa_nil))) pe_int (nomark _)) rfl))))))), ?_⟩
  refine ⟨_, rfl, _, rfl, x, CT, dx, _, rfl, hx, TT.cl, TT.nP, (by show 0 < 1000; decide), ?_⟩
  refine ⟨_, rfl, _, rfl, x, CT, dx, _, rfl, upd_same, TT.cl, TT.nN, (by show 1 < 1000; decide), ?_⟩
  rw [updd]
  have s2 : ∀ o, Same H0 (upd H x o) := fun o => same_upd sm nx
  refine ⟨_, rfl, c, rfl, ⟨_, (Kt.same (wg_on.trans (s2 _))).sq sq⟩, fun D nD => ?_⟩
  have nDx : D ≠ x := (ne_of_none upd_same nD).symm
  have hD : H D = none := by rw [upd_ne nDx] at nD; exact nD
  have hD0 := sm.free hD
  refine lc_tup (xs := us) (fun i H' => ∃ G' Hc ws, H' D = some (.lst ws) ∧ Same H0 Hc ∧ Same Hc H' ∧ Hc D = none ∧ Hc x = none ∧ (∀ y o, Hc y = some o → H0 y = some o ∨ H y = none) ∧ Grow G G' H0 ∧ InvG CP p n N G' Hc ∧ PtsAt K CT p n G' (wg G' Hc) (b.take i) ws ∧ ∀ z o, z ≠ D → upd H x (.ins CT dx (putF "n" (.int n) (putF "p" (.int p) []))) z = some o → H' z = some o) ⟨G, H0, [], upd_same, Same.refl _, (s2 _).trans (same_new nD), hD0, nx, fun y o h => .inl h, .refl _ _, I, PtsAt.nil, fun z o e h => (upd_ne e).trans h⟩ ?_ ?_ ?_
  · rintro i H' _ ⟨G', Hc, ws, _, sa, sb, _⟩
    exact (Kt.same (wg_on.trans (sa.trans sb))).sq sq
  · rintro i y H1 hy ⟨G', Hc, ws, h1, sa, sb, cD, cx, cc, gr, I1, pts, old⟩
    obtain ⟨t, ht, hT⟩ := r.get hy
    have wl := pts.length
    refine ⟨rfl, _, rfl, _, rfl, _, rfl, fun z dz nz ndz nez => ?_⟩
    have zD : D ≠ z := ne_of_none h1 nz
    have dD : D ≠ dz := ne_of_none h1 ndz
    refine ⟨p, n, N, G', Hc, z, dz, y, t, rfl, same_upd (same_upd sb (sb.free ndz)) (sb.free nz), sb.free nz, upd_same, I1, TrAt.kt (Kt.same (gr.wg sa)) _ _ hT, okB_one ok ht, fun G2 Hc2 H3 co gr2 I2 pt => ⟨rfl, ?_⟩⟩
    have h3 : H3 D = some (.lst ws) := co.d D _ zD ((upd_ne zD).trans ((upd_ne dD).trans h1))
    have not : ∀ u o, u ≠ z → (∃ o', H1 u = some o') → Hc u = none → Hc2 u = some o → False := fun u o e ⟨o', h⟩ hn hs => by
      rcases co.c u o hs with k | k | k
      · rw [hn] at k
        cases k
      · rw [upd_ne e] at k
        by_cases e2 : u = dz
        · rw [e2, upd_same] at k
          cases k
        · rw [upd_ne e2, h] at k
          cases k
      · exact e k
    have xz : x ≠ z := ne_of_none (old x _ nDx.symm upd_same) nz
    have cD2 : Hc2 D = none := by
      cases e : Hc2 D with
      | none => rfl
      | some o => exact (not D o zD ⟨_, h1⟩ cD e).elim
    have cx2 : Hc2 x = none := by
      cases e : Hc2 x with
      | none => rfl
      | some o => exact (not x o xz ⟨_, old x _ nDx.symm upd_same⟩ cx e).elim
    refine ⟨ws, h3, (by rw [wl, List.length_take, sizeLine_eq]; have := ok.2; omega), G2, Hc2, ws ++ [.ref z], upd_same, sa.trans co.a, ?_, cD2, cx2, fun u o h => ?_, gr.trans sa gr2, I2, ?_, fun u o e h => ?_⟩
    · intro u o h
      have e : u ≠ D := fun w => by rw [w, cD2] at h; cases h
      rw [upd_ne e]
      exact co.b _ _ h
    · rcases co.c u o h with k | k | k
      · exact cc u o k
      · refine .inr ?_
        by_cases e : H u = none
        · exact e
        · exfalso
          obtain ⟨o', ho⟩ := Option.ne_none_iff_exists'.mp e
          by_cases ex : u = x
          · subst ex
            rw [cx2] at h
            cases h
          · have e1 := old u o' (fun w => by rw [w, hD] at ho; cases ho) ((upd_ne ex).trans ho)
            have e2 : u ≠ z := fun w => by rw [w, nz] at e1; cases e1
            have e3 : u ≠ dz := fun w => by rw [w, ndz] at e1; cases e1
            rw [upd_ne e2, upd_ne e3, e1] at k
            cases k
      · refine .inr ?_
        subst k
        by_cases e : H u = none
        · exact e
        · exfalso
          obtain ⟨o', ho⟩ := Option.ne_none_iff_exists'.mp e
          have e1 := old u o' (fun w => by rw [w, hD] at ho; cases ho) ((upd_ne xz.symm).trans ho)
          rw [nz] at e1
          cases e1
    · rw [List.take_add_one, ht]
      exact (PtsAt.mono gr2.g (gr2.wg co.a) _ _ pts).snoc pt
    · have e1 := old u o e h
      have e2 : u ≠ z := fun w => by rw [w, nz] at e1; cases e1
      have e3 : u ≠ dz := fun w => by rw [w, ndz] at e1; cases e1
      exact (upd_ne e).trans (co.d u o e2 ((upd_ne e2).trans ((upd_ne e3).trans e1)))
  · rintro H1 ⟨G', Hc, ws, h1, sa, sb, cD, cx, cc, gr, I1, pts, old⟩
    rw [r.length, take_all] at pts
    have hx1 := old x _ nDx.symm upd_same
    have wl := pts.length
    refine ⟨_, rfl, x, CT, dx, _, rfl, hx1, TT.cl, TT.nL, (by show 2 < 1000; decide), ?_⟩
    refine ⟨_, rfl, x, CT, dx, _, _, rfl, upd_same, TT.cl, TT.nL, rfl, D, rfl, ⟨_, SqL.of ((upd_ne nDx).trans h1)⟩, fun E nE => ?_⟩
    generalize hA : upd H1 x (.ins CT dx (putF "parts" (.ref D) (putF "n" (.int n) (putF "p" (.int p) [])))) = HA at nE
    have xA : HA x = some (.ins CT dx (putF "parts" (.ref D) (putF "n" (.int n) (putF "p" (.int p) [])))) := by rw [← hA]; exact upd_same
    have sA : Same Hc HA := by rw [← hA]; exact same_upd sb cx
    have DA : HA D = some (.lst ws) := by rw [← hA]; exact (upd_ne nDx).trans h1
    have oA : ∀ z o, z ≠ x → H1 z = some o → HA z = some o := fun z o e h => by rw [← hA]; exact (upd_ne e).trans h
    refine lc_list (xs := ws) (fun i H' => H' E = some (.lst (((b.take i).map Tr.len).map V.int)) ∧ Same HA H') ⟨upd_same, same_new nE⟩ (fun i H' _ h => SqL.of (h.2 _ _ DA)) ?_ ?_
    · rintro i y H2 hy ⟨e1, e2⟩
      obtain ⟨t, ht, hT⟩ := pts.get hy
      obtain ⟨a, dp, vp, bp, qp, wp, rfl, hobj, _⟩ := PtAt.obj I1 hT
      refine ⟨rfl, _, rfl, a, CP, dp, _, _, rfl, e2 _ _ (sA _ _ hobj), PT.cl, PT.nS, pf_steps _ _ _ _ _ _ _, _, e1, ?_, ?_, same_upd e2 nE⟩
      · rw [List.length_map, List.length_map, List.length_take, sizeLine_eq]
        have := ok.2
        omega
      · rw [upd_same, map_next ht, List.map_append]
        rfl
    · rintro H2 ⟨e1, e2⟩
      rw [wl, take_all] at e1
      refine ⟨E, _, rfl, SqL.of e1, ?_⟩
      rw [← lens_map]
      refine ⟨_, rfl, x, CT, dx, _, rfl, e2 _ _ xA, TT.cl, TT.nS, (by show 3 < 1000; decide), ?_⟩
      have sB : ∀ o, Same Hc (upd H2 x o) := fun o => same_upd (sA.trans e2) cx
      have bd : ∀ o, BodyAt K (upd H2 x o) b (.ref c) := fun o => ⟨c, us, rfl, (Kt.same (wg_on.trans (sa.trans (sB o)))).sq sq, TrsAt.kt (Kt.same (wg_on.trans (sa.trans (sB o)))) _ _ r⟩
      refine ⟨_, rfl, .ref c, b, rfl, bd _, ok, fun H3 s3 => ?_⟩
      refine ⟨_, rfl, x, CT, dx, _, rfl, s3 _ _ upd_same, TT.cl, TT.nR, (by show 4 < 1000; decide), ?_⟩
      have sC : ∀ o, Same Hc (upd H3 x o) := fun o => same_upd ((sB _).trans s3) cx
      have bd3 : ∀ o, BodyAt K (upd H3 x o) b (.ref c) := fun o => ⟨c, us, rfl, (Kt.same (wg_on.trans (sa.trans (sC o)))).sq sq, TrsAt.kt (Kt.same (wg_on.trans (sa.trans (sC o)))) _ _ r⟩
      refine ⟨_, rfl, x, CT, dx, _, _, rfl, upd_same, TT.cl, TT.nR, rfl, _, rfl, .ref c, b, rfl, bd3 _, ok, fun H4 s4 => ?_⟩
      refine ⟨_, _, rfl, rfl, _, _, rfl, rfl, _, rfl, x, CT, dx, _, rfl, s4 _ _ upd_same, TT.cl, TT.nU, (by show 5 < 1000; decide), ?_⟩
      have keep : ∀ z o, z ≠ x → H1 z = some o → ∀ o', upd H4 x o' z = some o := fun z o e h o' => (upd_ne e).trans (s4 _ _ ((upd_ne e).trans (s3 _ _ ((upd_ne e).trans (e2 _ _ (oA z o e h))))))
      have sc1 : Same Hc (upd (upd Hc D (.lst ws)) x (.ins CT dx (tf p n D (lens b) (cnts "read" b) (loud b)))) := same_upd (same_upd (Same.refl _) cD) cx
      refine qq G' (upd (upd Hc D (.lst ws)) x (.ins CT dx (tf p n D (lens b) (cnts "read" b) (loud b)))) _ ⟨sa.trans sc1, fun z o h => ?_, fun z o h => ?_, fun z o e h => ?_⟩ gr (I1.same sc1) ?_
      · by_cases e : z = x
        · subst e
          rw [upd_same] at h ⊢
          exact h
        · rw [upd_ne e] at h
          by_cases e3 : z = D
          · subst e3
            rw [upd_same] at h
            cases h
            exact keep _ _ e h1 _
          · rw [upd_ne e3] at h
            exact keep _ _ e (sb _ _ h) _
      · by_cases e : z = x
        · exact .inr (.inr e)
        · rw [upd_ne e] at h
          by_cases e3 : z = D
          · exact .inr (.inl (e3 ▸ hD))
          · rw [upd_ne e3] at h
            exact (cc z o h).imp id .inl
      · have e3 : z ≠ D := fun w => by rw [w, hD] at h; cases h
        exact keep z o e (old z o e3 ((upd_ne e).trans h)) _
      · have g1 : G' x = none := I1.held cx
        have g2 : G' D = none := I1.held cD
        refine ⟨x, dx, D, ws, rfl, ?_, ?_, PtsAt.mono (fun _ _ e => e) (wg_same sc1) _ _ pts⟩
        · rw [wg_at g1]
          exact upd_same
        · rw [wg_at g2]
          exact (upd_ne nDx).trans upd_same
end
section
variable {P : Program} {w : World} {K : PySem.W.Frag} {mg : Str → Option Value} {base : Heap}
/-! ### counts -/
theorem ok_word1 (M : Bl mg) (F : At K mg "word_count" sWord_count ["program", "word"]) {n k : Nat} (h : Has P w K mg base k "word_count" ["program", "word"] (spWI K (okB n))) : Has P w K mg base (k + 1) "word_count" ["program", "word"] (spWI K (okB (n + 1))) := by
  obtain ⟨fS, fdS, cWord_count⟩ := h
  refine Has.by F scWord_count (fun vs H Q E h => ?_) (fun f cdv A out s H vs Q E hg hr h => ?_)
  · obtain ⟨v, t, z, rfl, _⟩ := h
    rfl
  obtain ⟨v, b, z, rfl, ⟨c, us, rfl, sq, r⟩, ok, hz, q⟩ := h
  refine ⟨_, (pss_cons (ps_set (i := 2) scWord_count.nd rfl (.inl rfl) pe_int)
  (pss_cons (ps_for PassesOwn.never rfl (pi_tup (pv 0)) (pg_name (i := 3) scWord_count.nd rfl (.inl rfl))
    (pss_one (ps_if (pt_cmpR op_eq (pe_ix ix_tup (pv 3) pe_int (fun _ _ => rfl)) pe_str (nomark _))
    (pss_one (ps_aug (i := 2) scWord_count.nd rfl (.inl rfl) (pe_op op_mul (pe_ix ix_tup (pv 3) pe_int (fun _ _ => rfl)) (pe_cal cWord_count hg hr (by rfl) (pa_cons (pe_ix ix_tup (pv 3) pe_int (fun _ _ => rfl)) (pa_cons (pv 1) pa_nil)))) ip_add))
    (pss_one (ps_if (pt_cmpR op_eq (pe_ix ix_tup (pv 3) pe_int (fun _ _ => rfl)) (pv 1) (nomark _))
    (pss_one (ps_aug (i := 2) scWord_count.nd rfl (.inl rfl) pe_int ip_add))
    pss_nil)))))
  (pss_one (ps_ret (pv 2))))), ?_⟩
  refine ⟨_, rfl, c, rfl, ⟨_, sq⟩, ?_⟩
  refine for_tup (xs := us) (fun i σ H' => ∃ y, σ = [some (.ref c), some (.str z), some (.int ((b.take i).map (Tr.cnt z)).sum), y] ∧ Same H H') ⟨none, rfl, Same.refl H⟩ (fun i σ H' _ h => ?_) ?_ ?_
  · obtain ⟨_, _, h⟩ := h
    exact (Kt.same h).sq sq
  · rintro i x σ H' hx ⟨y, rfl, e2⟩
    obtain ⟨t, ht, hT⟩ := r.get hx
    have hT := TrAt.kt (Kt.same e2) t x hT
    rw [sum_next ht]
    cases t with
    | op u as =>
      rw [TrAt] at hT
      obtain ⟨a, rfl, sq3⟩ := hT
      refine ⟨_, rfl, a, _, 0, .str u, rfl, rfl, sq3, at0, rfl, _, rfl, iteN (fun e => okB_op ok ht (V.str.inj e)) ?_⟩
      refine ⟨_, rfl, a, _, 0, .str u, rfl, rfl, sq3, at0, _, rfl, rfl, _, rfl, ?_⟩
      by_cases e : u = z
      · refine iteP (congrArg V.str e) ⟨_, rfl, _, _, rfl, rfl, some (.ref a), ?_, e2⟩
        rw [Tr.cnt, if_pos e]
        rfl
      · refine iteN (fun e' => e (V.str.inj e')) ⟨some (.ref a), ?_, e2⟩
        rw [Tr.cnt, if_neg e, Int.add_zero]
        rfl
    | loop m b' =>
      rw [TrAt] at hT
      obtain ⟨a, d, ws, rfl, sq3, sq4, r2⟩ := hT
      obtain ⟨c0, c1, ok2⟩ := okB_loop ok ht
      refine ⟨_, rfl, a, _, 0, .str "loop", rfl, rfl, sq3, rfl, rfl, _, rfl, iteP rfl ?_⟩
      refine ⟨_, rfl, _, rfl, a, _, 1, .int m, rfl, rfl, sq3, rfl, _, rfl, a, _, 2, .ref d, rfl, rfl, sq3, rfl, _, rfl, _, b', z, rfl, ⟨d, ws, rfl, sq4, r2⟩, ok2, hz, fun H2 sm => ?_⟩
      refine ⟨m, _, rfl, rfl, .inl ⟨by omega, by omega⟩, _, _, rfl, rfl, some (.ref a), ?_, e2.trans sm⟩
      rw [Tr.cnt]
      rfl
  · rintro σ H' ⟨y, rfl, e2⟩
    rw [r.length, take_all, ← cnts_map]
    exact ⟨_, rfl, q H' e2⟩
theorem ok_word (M : Bl mg) (F : At K mg "word_count" sWord_count ["program", "word"]) : ∀ n, Has P w K mg base n "word_count" ["program", "word"] (spWI K (okB n))
  | 0 => Has.none F fun vs H Q E ⟨_, _, _, _, _, h, _⟩ => h
  | n + 1 => ok_word1 M F (ok_word M F n)
theorem ok_read (F : At K mg "read_count" sRead_count ["program"]) {n k : Nat} (h : Has P w K mg base k "word_count" ["program", "word"] (spWI K (okB n))) : Has P w K mg base (k + 1) "read_count" ["program"] (spTI K (okB n) (cnts "read")) := by
  obtain ⟨fS, fdS, cWord_count⟩ := h
  refine Has.by F scRead_count (fun vs H Q E h => ?_) (fun f cdv A out s H vs Q E hg hr h => ?_)
  · obtain ⟨v, t, rfl, _⟩ := h
    rfl
  obtain ⟨v, b, rfl, hB, ok, q⟩ := h
  exact ⟨_, (pss_one (ps_ret (pe_cal cWord_count hg hr (by rfl) (pa_cons (pv 0) (pa_cons pe_str pa_nil))))), _, rfl, v, b, "read", rfl, hB, ok, by decide, q⟩
theorem ok_write (F : At K mg "write_count" sWrite_count ["program"]) {n k : Nat} (h : Has P w K mg base k "word_count" ["program", "word"] (spWI K (okB n))) : Has P w K mg base (k + 1) "write_count" ["program"] (spTI K (okB n) (cnts "write")) := by
  obtain ⟨fS, fdS, cWord_count⟩ := h
  refine Has.by F scWrite_count (fun vs H Q E h => ?_) (fun f cdv A out s H vs Q E hg hr h => ?_)
  · obtain ⟨v, t, rfl, _⟩ := h
    rfl
  obtain ⟨v, b, rfl, hB, ok, q⟩ := h
  exact ⟨_, (pss_one (ps_ret (pe_cal cWord_count hg hr (by rfl) (pa_cons (pv 0) (pa_cons pe_str pa_nil))))), _, rfl, v, b, "write", rfl, hB, ok, by decide, q⟩
end
section
variable {P : Program} {w : World} {K : PySem.W.Frag} {mg : Str → Option Value} {base : Heap} {CT CP : Addr}
/-- tracks of every depth -/
theorem ok_inits (M : Bl mg) (FT : KAt K mg CT "Track" "Track.__init__" sTrack_init ["self", "p", "n", "program"]) (FP : KAt K mg CP "Part" "Part.__init__" sPart_init ["self", "p", "n", "instruction"]) (FW : At K mg "word_count" sWord_count ["program", "word"]) (FR : At K mg "read_count" sRead_count ["program"]) (FC : At K mg "write_count" sWrite_count ["program"]) (TT : TTxt K mg CT) (PT : PTxt K mg CP) :
    ∀ d, KHas P w K mg base (4 * d) CT "Track" ["self", "p", "n", "program"] (spTInit K CT CP d)
  | 0 => KHas.none FT fun vs H Q E ⟨_, _, _, _, _, _, _, _, _, _, _, _, _, _, _, h, _⟩ => h
  | d + 1 => ok_tinit M FT TT PT (ok_pinit M FP TT PT (ok_inits M FT FP FW FR FC TT PT d)) ((ok_read FR (ok_word M FW (d + 1))).up (by show d + 1 + 1 ≤ 4 * d + 2 + 1; omega)) ((ok_write FC (ok_word M FW (d + 1))).up (by show d + 1 + 1 ≤ 4 * d + 2 + 1; omega))
end
end K32
set_option Elab.async false
set_option linter.all false
set_option maxRecDepth 100000
set_option pp.maxSteps 500
set_option pp.deepTerms.threshold 8
set_option pp.deepTerms false
namespace K32
open PySem PySem.Spec PyProof.Rows L2 Lj
section
variable {P : Program} {w : World} {K : PySem.W.Frag} {mg : Str → Option Value} {base : Heap}
theorem paired_get {α β : Type} {F : α → β → Prop} : ∀ {as : List α} {bs : List β} {i : Nat} {a : α}, Paired F as bs → as[i]? = some a → ∃ b, bs[i]? = some b ∧ F a b
  | _, _, 0, _, .cons h _, e => by
    cases e
    exact ⟨_, rfl, h⟩
  | _, _, i + 1, _, .cons _ t, e => paired_get (i := i) t e
def spInv : Sp := fun vs H Q _ => ∃ p a : Int, vs = [.int p, .int a] ∧ 1 < p ∧ p ≤ 10007 ∧ 0 < a ∧ a < p ∧ K02.Cop p a ∧ ∀ r : Int, 0 < r → r < p → r * a % p = 1 → Q (.int r) H
theorem ok_inv (F : At K mg "inverse" sInverse ["p", "a"]) {k : Nat} : Has P w K mg base (k + 1) "inverse" ["p", "a"] spInv := by
  refine Has.by F scInverse (fun vs H Q E h => ?_) (fun f cdv A out s H vs Q E hg hr h => ?_)
  · obtain ⟨p, a, rfl, _⟩ := h
    rfl
  obtain ⟨p, a, rfl, p1, p2, a0, a1, cop, q⟩ := h
  refine ⟨_, (pss_cons (ps_par (i := 2) (j := 3) (by rfl) scInverse.nd rfl rfl (by decide) rfl rfl (pa_cons (pv 0) (pa_cons pe_int pa_nil)) (by rfl))
  (pss_cons (ps_par (i := 4) (j := 5) (by rfl) scInverse.nd rfl rfl (by decide) rfl rfl (pa_cons (pv 1) (pa_cons pe_int pa_nil)) (by rfl))
  (pss_cons (ps_while PassesOwn.never (pt_cmpR op_gt (pv 4) pe_int (nomark _))
    (pss_cons (ps_set (i := 6) scInverse.nd rfl (.inl rfl) (pe_op op_fdiv (pv 2) (pv 4)))
  (pss_cons (ps_par (i := 2) (j := 4) (by rfl) scInverse.nd rfl rfl (by decide) rfl rfl (pa_cons (pv 4) (pa_cons (pe_op op_sub (pv 2) (pe_op op_mul (pv 6) (pv 4))) pa_nil)) (by rfl))
  (pss_one (ps_par (i := 3) (j := 5) (by rfl) scInverse.nd rfl rfl (by decide) rfl rfl (pa_cons (pv 5) (pa_cons (pe_op op_sub (pv 3) (pe_op op_mul (pv 6) (pv 5))) pa_nil)) (by rfl))))))
  (pss_one (ps_ret (pe_op op_mod (pv 5) (pv 0))))))), ?_⟩
  refine ⟨_, rfl, _, _, rfl, _, rfl, _, _, rfl, ?_⟩
  refine ⟨fun m σ H' => ∃ (hi hs lo ls : Int) (y : Option V), σ = [some (.int p), some (.int a), some (.int hi), some (.int hs), some (.int lo), some (.int ls), y] ∧ H' = H ∧ K02.EI p a hi hs lo ls ∧ m = lo.toNat,
    ⟨_, p, 0, a, 1, none, rfl, rfl, K02.EI.start a0 a1 cop, rfl⟩, ?_⟩
  rintro m σ H' ⟨hi, hs, lo, ls, y, rfl, rfl, e, rfl⟩
  refine ⟨_, rfl, lo, 1, rfl, rfl, _, rfl, ite2 (fun c => ?_) (fun c => ?_)⟩
  · have c' : 1 < lo := of_decide_eq_true c
    obtain ⟨e2, lt⟩ := e.step c'
    have l1 := e.lop
    have l2 := e.hip
    have l3 := e.hi1
    have q0 : 0 ≤ hi / lo := Int.ediv_nonneg (by omega) (by omega)
    have q1 : hi / lo ≤ hi := Int.ediv_le_self _ (by omega)
    refine ⟨fun σ' H2 => ∃ y, σ' = [some (.int p), some (.int a), some (.int lo), some (.int ls), some (.int (hi - hi / lo * lo)), some (.int (hs - hi / lo * ls)), y] ∧ H2 = H', ?_, ?_⟩
    · rintro σ' H2 ⟨y2, rfl, rfl⟩
      exact ⟨_, lt, _, _, _, _, y2, rfl, rfl, e2, rfl⟩
    · refine ⟨_, rfl, _, rfl, hi, lo, rfl, rfl, ⟨by omega, by omega⟩, ?_⟩
      refine ⟨_, rfl, _, rfl, _, rfl, _, rfl, _, _, rfl, rfl, .inl ⟨by omega, by omega⟩, _, _, rfl, rfl, _, _, rfl, ?_⟩
      refine ⟨_, rfl, _, rfl, _, rfl, _, rfl, _, _, rfl, rfl, .inl ⟨by omega, by omega⟩, _, _, rfl, rfl, _, _, rfl, ?_⟩
      exact ⟨_, rfl, rfl⟩
  · have c' : ¬ 1 < lo := of_decide_eq_false (Bool.eq_false_iff.mpr c)
    obtain ⟨r0, r1, r2⟩ := e.done c' p1
    exact ⟨_, rfl, _, rfl, _, _, rfl, rfl, (by show (0 : Int) < p; omega), q _ r0 r1 r2⟩

def spTimes (K : PySem.W.Frag) : Sp := fun vs H Q _ => ∃ (p f : Int) (a : Addr) (ns : List Int), vs = [.int p, .int f, .ref a] ∧ LTa K H a (ns.map V.int) ∧ 1 < p ∧ p ≤ 10007 ∧ 0 ≤ f ∧ f < p ∧ ns.length ≤ 3000 ∧
  ∀ H' c, Same H H' → H c = none → H' c = some (.lst ((ns.map fun a => f * a % p).map V.int)) → Q (.ref c) H'
theorem take_map {f : Int → Int} {ns : List Int} {i : Nat} {a : Int} (e : ns[i]? = some a) : (ns.take (i + 1)).map f = (ns.take i).map f ++ [f a] := by
  rw [List.take_add_one, e, List.map_append]
  rfl
theorem ok_times (M : Bl mg) (F : At K mg "times" sTimes ["p", "factor", "row"]) {k : Nat} : Has P w K mg base (k + 1) "times" ["p", "factor", "row"] (spTimes K) := by
  refine Has.by F scTimes (fun vs H Q E h => ?_) (fun g cdv A out s H vs Q E hg hr h => ?_)
  · obtain ⟨_, _, _, _, rfl, _⟩ := h
    rfl
  obtain ⟨p, f, a, ns, rfl, sq, p1, p2, f0, f1, hl, q⟩ := h
  obtain ⟨G, sg, gk⟩ := sq.g
  refine ⟨_, (pss_one (ps_ret (pe_lc (own := [("a", 3)]) (g := gName 3) (by rfl) scTimes.nd (pi_LT (pv 2)) (blkOk_by (own := [("a", 3)]) (N := ["p", "factor", "row", "a"]) (sc := defScope sTimes) (by decide +kernel)) (fun _ _ _ _ _ => (pg_name (i := 3) scTimes.nd rfl (.inl rfl))) (fun _ _ _ _ _ => pts_nil) (fun _ _ _ _ _ => (pe_op op_mod (pe_op op_mul (pv 1) (pv 3)) (pv 0)))))), ?_⟩
  refine ⟨_, rfl, a, ns.map V.int, G, rfl, sg, gk _ (Same.refl _), fun D nD => ?_⟩
  refine lc_it (walk_G2 (G := G) (xs := ns.map V.int)) (fun i H' => H' D = some (.lst (((ns.take i).map fun a => f * a % p).map V.int)) ∧ Same H H') ⟨upd_same, same_new nD⟩ (fun i H' _ h => gk _ h.2) ?_ ?_
  · rintro i x H1 H2 hi ⟨e1, e2⟩ ⟨rfl, hx⟩
    rw [List.getElem?_map] at hx
    obtain ⟨z, ez, rfl⟩ := Option.map_eq_some_iff.mp hx
    refine ⟨rfl, _, rfl, _, rfl, f, z, rfl, rfl, .inl ⟨by omega, by omega⟩, _, rfl, _, p, rfl, rfl, by omega, _, e1, ?_, ?_, fun b o ho => ?_⟩
    · rw [List.length_map, List.length_map, List.length_take, sizeLine_eq]
      omega
    · rw [upd_same, take_map ez, List.map_append]
      rfl
    · rw [upd_ne (ne_of_none ho nD)]
      exact e2 _ _ ho
  · rintro H2 ⟨e1, e2⟩
    rw [List.length_map, List.take_length] at e1
    exact q H2 D e2 nD e1
def spLess (K : PySem.W.Frag) : Sp := fun vs H Q _ => ∃ (p f : Int) (a b : Addr) (ns ms : List Int), vs = [.int p, .ref a, .int f, .ref b] ∧ LTa K H a (ns.map V.int) ∧ SqL K H b (ms.map V.int) ∧ ns.length = ms.length ∧ 1 < p ∧ p ≤ 10007 ∧ 0 ≤ f ∧ f < p ∧ ns.length ≤ 3000 ∧
  ∀ H' c, Same H H' → H c = none → H' c = some (.lst ((List.zipWith (fun x y => (x - f * y) % p) ns ms).map V.int)) → Q (.ref c) H'
theorem take_zip {f : Int → Int → Int} {ns ms : List Int} {i : Nat} {a b : Int} (e : ns[i]? = some a) (e2 : ms[i]? = some b) : List.zipWith f (ns.take (i + 1)) (ms.take (i + 1)) = List.zipWith f (ns.take i) (ms.take i) ++ [f a b] := by
  rw [← List.take_zipWith, ← List.take_zipWith, List.take_add_one, List.getElem?_zipWith, e, e2]
  rfl
theorem ok_less (M : Bl mg) (F : At K mg "less" sLess ["p", "row", "factor", "other"]) {k : Nat} : Has P w K mg base (k + 1) "less" ["p", "row", "factor", "other"] (spLess K) := by
  refine Has.by F scLess (fun vs H Q E h => ?_) (fun g cdv A out s H vs Q E hg hr h => ?_)
  · obtain ⟨_, _, _, _, _, _, rfl, _⟩ := h
    rfl
  obtain ⟨p, f, a, b, ns, ms, rfl, sa, sb, eq, p1, p2, f0, f1, hl, q⟩ := h
  rcases sa with sa | sa
  · refine ⟨_, (pss_one (ps_ret (pe_lc (own := [("a", 4), ("b", 5)]) (g := gTup K 2 (gCons (gName 4) (gCons (gName 5) gNil))) (by rfl) scLess.nd (pi_zip (by rfl) M.zip_ (pa_cons (pv 1) (pa_cons (pv 3) pa_nil))) (blkOk_by (own := [("a", 4), ("b", 5)]) (N := ["p", "row", "factor", "other", "a", "b"]) (sc := defScope sLess) (by decide +kernel)) (fun _ _ _ _ _ => (pg_tup rfl (pgs_cons (pg_name (i := 4) scLess.nd rfl (.inl rfl)) (pgs_cons (pg_name (i := 5) scLess.nd rfl (.inl rfl)) pgs_nil)))) (fun _ _ _ _ _ => pts_nil) (fun _ _ _ _ _ => (pe_op op_mod (pe_op op_sub (pv 4) (pe_op op_mul (pv 2) (pv 5))) (pv 0)))))), ?_⟩
    refine ⟨_, rfl, _, rfl, a, b, _, _, rfl, sa, sb, fun D nD => ?_⟩
    refine lc_it (walk_zip (K := K) (a := a) (b := b) (xs := ns.map V.int) (ys := ms.map V.int) (n := ns.length) (by rw [List.length_map, List.length_map]; omega)) (fun i H' => H' D = some (.lst ((List.zipWith (fun x y => (x - f * y) % p) (ns.take i) (ms.take i)).map V.int)) ∧ Same H H') ⟨upd_same, same_new nD⟩ (fun i H' _ h => ⟨h.2.seq sa, h.2.seq sb⟩) ?_ ?_
    · rintro i x H1 H2 hi ⟨e1, e2⟩ ⟨T, u, v, rfl, nT, rfl, hu, hv⟩
      cases (row_int hi).symm.trans hu
      cases (row_int (ns := ms) (i := i) (by omega)).symm.trans hv
      have sT := same_new (o := .tup [V.int (row ns i), V.int (row ms i)]) nT
      refine ⟨T, _, rfl, SqT.of upd_same, rfl, _, _, rfl, _, _, rfl, rfl, ?_⟩
      refine ⟨rfl, _, rfl, _, rfl, _, rfl, f, _, rfl, rfl, .inl ⟨by omega, by omega⟩, _, _, rfl, rfl, _, rfl, _, p, rfl, rfl, by omega, _, sT _ _ e1, ?_, ?_, fun c o ho => ?_⟩
      · rw [List.length_map, List.length_zipWith, List.length_take, List.length_take, sizeLine_eq]
        omega
      · rw [upd_same, take_zip (row_at hi) (row_at (by omega)), List.map_append]
        rfl
      · rw [upd_ne (ne_of_none ho nD)]
        exact sT _ _ (e2 _ _ ho)
    · rintro H2 ⟨e1, e2⟩
      rw [List.take_length, eq, List.take_length] at e1
      exact q H2 D e2 nD e1
  · refine ⟨_, (pss_one (ps_ret (pe_lc (own := [("a", 4), ("b", 5)]) (g := gTup K 2 (gCons (gName 4) (gCons (gName 5) gNil))) (by rfl) scLess.nd (pi_zipTL (by rfl) M.zip_ (pa_cons (pv 1) (pa_cons (pv 3) pa_nil))) (blkOk_by (own := [("a", 4), ("b", 5)]) (N := ["p", "row", "factor", "other", "a", "b"]) (sc := defScope sLess) (by decide +kernel)) (fun _ _ _ _ _ => (pg_tup rfl (pgs_cons (pg_name (i := 4) scLess.nd rfl (.inl rfl)) (pgs_cons (pg_name (i := 5) scLess.nd rfl (.inl rfl)) pgs_nil)))) (fun _ _ _ _ _ => pts_nil) (fun _ _ _ _ _ => (pe_op op_mod (pe_op op_sub (pv 4) (pe_op op_mul (pv 2) (pv 5))) (pv 0)))))), ?_⟩
    refine ⟨_, rfl, _, rfl, a, b, _, _, rfl, sa, sb, fun D nD => ?_⟩
    have mn : min (ns.map V.int).length (ms.map V.int).length = ns.length := by rw [List.length_map, List.length_map]; omega
    rw [mn]
    refine lc_it (walk_F (n := ns.length) (xs := ns.map V.int) (ys := ms.map V.int)) (fun i H' => H' D = some (.lst ((List.zipWith (fun x y => (x - f * y) % p) (ns.take i) (ms.take i)).map V.int)) ∧ Same H H') ⟨upd_same, same_new nD⟩ (fun i H' _ h => ⟨(Kt.same h.2).sq sa, h.2.seq sb⟩) ?_ ?_
    · rintro i x H1 H2 hi ⟨e1, e2⟩ ⟨T, u, v, rfl, nT, rfl, hu, hv⟩
      cases (row_int hi).symm.trans hu
      cases (row_int (ns := ms) (i := i) (by omega)).symm.trans hv
      have sT := same_new (o := .tup [V.int (row ns i), V.int (row ms i)]) nT
      refine ⟨T, _, rfl, SqT.of upd_same, rfl, _, _, rfl, _, _, rfl, rfl, ?_⟩
      refine ⟨rfl, _, rfl, _, rfl, _, rfl, f, _, rfl, rfl, .inl ⟨by omega, by omega⟩, _, _, rfl, rfl, _, rfl, _, p, rfl, rfl, by omega, _, sT _ _ e1, ?_, ?_, fun c o ho => ?_⟩
      · rw [List.length_map, List.length_zipWith, List.length_take, List.length_take, sizeLine_eq]
        omega
      · rw [upd_same, take_zip (row_at hi) (row_at (by omega)), List.map_append]
        rfl
      · rw [upd_ne (ne_of_none ho nD)]
        exact sT _ _ (e2 _ _ ho)
    · rintro H2 ⟨e1, e2⟩
      rw [List.take_length, eq, List.take_length] at e1
      exact q H2 D e2 nD e1
/-! ### echelon: leading rows, as many as the rank -/
def spEch (K : PySem.W.Frag) : Sp := fun vs H Q _ => ∃ (p : Int) (v : V) (R : List (List Int)) (N : Nat), vs = [.int p, v] ∧ RwsAt K H v R ∧ (∀ ns ∈ R, ns.length = N ∧ Fe p ns) ∧ N ≤ 3000 ∧ p ≤ 10007 ∧ PInv p ∧ (∀ a, 0 < a → a < p → K02.Cop p a) ∧
  ∀ H' d E, Same H H' → H d = none → H' d = some (.dK (kvE E)) → (∀ e ∈ E, EntOk p N H' e) → (∀ e ∈ E, H e.b = none) → (E.map (·.b)).Nodup → (E.map (·.c)).Nodup → E.length ≤ N → EchOf p N E (R.map row) → Q (.ref d) H'
theorem ent_keep {p : Int} {N : Nat} {H H' : Hp} {e : Ent} (h : EntOk p N H e) (k : ∀ o, H e.b = some o → H' e.b = some o) : EntOk p N H' e := ⟨k _ h.1, h.2⟩
/-- keys are different, and below N: there are at most N -/
theorem few {N : Nat} : ∀ {cs : List Nat}, cs.Nodup → (∀ c ∈ cs, c < N) → cs.length ≤ N := fun {cs} nd h => by
  have s : cs ⊆ List.range N := fun c m => List.mem_range.mpr (h c m)
  have := nd.length_le_of_subset s
  rw [List.length_range] at this
  exact this
theorem ok_ech (M : Bl mg) (F : At K mg "echelon" sEchelon ["p", "rows"]) {k : Nat} (h1 : Has P w K mg base k "inverse" ["p", "a"] spInv) (h2 : Has P w K mg base k "times" ["p", "factor", "row"] (spTimes K)) (h3 : Has P w K mg base k "less" ["p", "row", "factor", "other"] (spLess K)) :
    Has P w K mg base (k + 1) "echelon" ["p", "rows"] (spEch K) := by
  obtain ⟨_, _, cInverse⟩ := h1
  obtain ⟨_, _, cTimes⟩ := h2
  obtain ⟨_, _, cLess⟩ := h3
  refine Has.by F scEchelon (fun vs H Q E h => ?_) (fun g cdv A out s H vs Q E hg hr h => ?_)
  · obtain ⟨_, _, _, _, rfl, _⟩ := h
    rfl
  obtain ⟨p, v, R, N, rfl, ⟨c, as, rfl, sq, pa⟩, hR, hN, p7, pi, cop, q⟩ := h
  have p1 := pi.1
  obtain ⟨G, sg, gk⟩ := sq.g
  refine ⟨_, (pss_cons (ps_set (i := 2) scEchelon.nd rfl (.inl rfl) pe_dnewK)
  (pss_cons (ps_for PassesOwn.never rfl (pi_LT (pv 1)) (pg_name (i := 3) scEchelon.nd rfl (.inl rfl))
    (pss_cons (ps_set (i := 4) scEchelon.nd rfl (.inl rfl) (pv 3))
  (pss_one (ps_for PassesOwn.never rfl (pi_range1 (by rfl) M.range_ (pa_cons (pe_callB call_len_seq (by rfl) M.len_ (by decide +kernel) (pa_cons (pv 3) pa_nil)) pa_nil)) (pg_name (i := 5) scEchelon.nd rfl (.inl rfl))
    (pss_cons (ps_if (pt_cmpR op_eq (pe_ix ix_LT (pv 4) (pv 5) (fun _ _ => rfl)) pe_int (nomark _))
    (pss_one ps_continue)
    pss_nil)
  (pss_cons (ps_if (pt_cmp (pc_dnotin (un1 hr) (pv 5) (pv 2)))
    (pss_cons (ps_dput (un1 hr) (pv 2) (pv 5) (pe_cal cTimes hg hr (by rfl) (pa_cons (pv 0) (pa_cons (pe_cal cInverse hg hr (by rfl) (pa_cons (pv 0) (pa_cons (pe_ix ix_LT (pv 4) (pv 5) (fun _ _ => rfl)) pa_nil))) (pa_cons (pv 4) pa_nil)))) rfl)
  (pss_one ps_break))
    pss_nil)
  (pss_one (ps_set (i := 4) scEchelon.nd rfl (.inl rfl) (pe_cal cLess hg hr (by rfl) (pa_cons (pv 0) (pa_cons (pv 4) (pa_cons (pe_ix ix_LT (pv 4) (pv 5) (fun _ _ => rfl)) (pa_cons (pe_dget (un1 hr) (pv 2) (pv 5) (fun _ _ => rfl)) pa_nil)))))))))))))
  (pss_one (ps_ret (pv 2))))), ?_⟩
  refine fun d nd => ?_
  have alen : as.length = R.length := Paired.length pa
  refine ⟨_, rfl, c, as.map V.ref, G, rfl, sg, gk _ (same_new nd), ?_⟩
  refine for_it (walk_G2 (G := G) (xs := as.map V.ref)) (fun i σ H' => ∃ y3 y4 y5 E, σ = [some (.int p), some (.ref c), some (.ref d), y3, y4, y5] ∧ Same H H' ∧ H' d = some (.dK (kvE E)) ∧ (∀ e ∈ E, EntOk p N H' e) ∧ (∀ e ∈ E, H e.b = none) ∧ (E.map (·.b)).Nodup ∧ (E.map (·.c)).Nodup ∧ EchOf p N E ((R.take i).map row))
    ⟨_, _, _, [], rfl, same_new nd, upd_same, (fun e m => absurd m List.not_mem_nil), (fun e m => absurd m List.not_mem_nil), List.nodup_nil, List.nodup_nil, EchOf.nil p N⟩ (fun i σ H' _ ⟨_, _, _, _, _, sm, _⟩ => gk _ sm) ?_ ?_
  · rintro i x σ H0 H1 hi ⟨y3, y4, y5, E, rfl, s1, d1, ok1, new1, nb1, nd1, kl1⟩ ⟨rfl, hx⟩
    rw [List.getElem?_map] at hx
    obtain ⟨a, ea, rfl⟩ := Option.map_eq_some_iff.mp hx
    obtain ⟨ns, en, sqa⟩ := paired_get pa ea
    obtain ⟨nl, fe⟩ := hR ns (List.mem_of_getElem? en)
    have bg1 : ∀ e ∈ E, Begins e.c (row e.es) := fun e m => (ok1 e m).2.2.2.2
    have et : (R.take (i + 1)).map row = (R.take i).map row ++ [row ns] := by
      rw [List.take_add_one, en, List.map_append]
      rfl
    have dle : E.length ≤ N := by
      have := few nd1 (N := N) fun c m => by
        obtain ⟨e, me, rfl⟩ := List.mem_map.mp m
        exact (ok1 e me).2.2.2.1
      rw [List.length_map] at this
      exact this
    refine ⟨_, rfl, _, rfl, a, _, rfl, sqa.same s1, _, rfl, by rw [List.length_map]; omega, by rw [List.length_map]; omega, ?_⟩
    rw [List.length_map, nl]
    -- along the columns
    refine for_range (lo := 0) (n := N) (fun j σ H' => ∃ y5 b ms, σ = [some (.int p), some (.ref c), some (.ref d), some (.ref a), some (.ref b), y5] ∧ Same H1 H' ∧ LTa K H' b (ms.map V.int) ∧ ms.length = N ∧ Fe p ms ∧ (∀ k, k < j → row ms k = 0) ∧ Left p N E ms ns)
      ⟨_, a, ns, rfl, Same.refl _, sqa.same s1, nl, fe, (fun k hk => absurd hk (Nat.not_lt_zero _)), Left.refl p N E ns⟩ ?_ ?_
    · rintro j σ H2 hj ⟨y5, b, ms, rfl, s2, sb, ml, fm, z, kk⟩
      have jm : j < ms.length := by omega
      have d2 := s2 _ _ d1
      have ok2 : ∀ e ∈ E, EntOk p N H2 e := fun e m => ent_keep (ok1 e m) fun o h => s2 _ _ h
      have z0 : (0 : Int) + (j : Nat) = (j : Nat) := by omega
      obtain ⟨m0, m1⟩ := fm.row jm
      refine ⟨_, rfl, _, rfl, b, _, _, _, rfl, rfl, sb, by rw [z0]; exact atI_row jm, rfl, _, rfl, ite2 (fun cc => ?_) (fun cc => ?_)⟩
      · -- nothing to do here
        have e0 : row ms j = 0 := V.int.inj (of_decide_eq_true cc)
        exact ⟨_, b, ms, rfl, s2, sb, ml, fm, (fun k hk => by
          by_cases h : k = j
          · rw [h]; exact e0
          · exact z k (by omega)), kk⟩
      have e0 : row ms j ≠ 0 := fun e => cc (decide_eq_true (by rw [e]))
      refine ⟨_, rfl, _, rfl, d, valV (kvE E) (Sum.inl ((0 : Int) + (j : Nat))), rfl, DGet.k (k := Sum.inl ((0 : Int) + (j : Nat))) d2, _, rfl, ?_⟩
      rw [z0]
      cases hv : valV (kvE E) (Sum.inl ((j : Nat) : Int)) with
      | none =>
        have fresh := kvE_none.mp hv
        refine iteT ?_
        have cj : K02.Cop p (row ms j) := cop _ (by omega) m1
        refine ⟨_, rfl, _, rfl, _, rfl, _, rfl, b, _, _, _, rfl, rfl, sb, atI_row jm, p, row ms j, rfl, p1, p7, by omega, m1, cj, fun r r0 r1 r2 => ?_⟩
        refine ⟨_, rfl, p, r, b, ms, rfl, sb, p1, p7, by omega, r1, by omega, fun H3 t s3 nt ht => ?_⟩
        have d3 := s3 _ _ d2
        refine ⟨_, rfl, _, rfl, d, _, rfl, .inl ⟨_, Sum.inl ((j : Nat) : Int), d3, rfl, ?_, rfl⟩, ?_⟩
        · unfold kvE
          rw [List.length_map, sizeLine_eq]
          omega
        rw [putK_new _ hv]
        have tl : (ms.map fun a => r * a % p).length = N := by rw [List.length_map]; exact ml
        have ntd : t ≠ d := (ne_of_none d2 nt).symm
        have newE : EntOk p N (upd H3 d (.dK (kvE E ++ [(Sum.inl ((j : Nat) : Int), V.ref t)]))) ⟨j, t, ms.map fun a => r * a % p⟩ := by
          refine ⟨(upd_ne ntd).trans ht, tl, Fe.mod (by omega) (fun a => r * a) ms, hj, fun k hk => ?_, ?_⟩
          · have hk : k < j := hk
            rw [row_map (by omega), z k hk, Int.mul_zero, Int.zero_emod]
          · rw [row_map jm]
            exact r2
        refine ⟨_, _, _, E ++ [⟨j, t, ms.map fun a => r * a % p⟩], rfl, ?_, ?_, ?_, ?_, ?_, ?_, ?_⟩
        · intro x o ho
          rw [upd_ne (ne_of_none ho nd)]
          exact s3 _ _ (s2 _ _ (s1 _ _ ho))
        · rw [upd_same]
          unfold kvE
          rw [List.map_append]
          rfl
        · intro e m
          rcases List.mem_append.mp m with m | m
          · refine ent_keep (ok2 e m) fun o ho => ?_
            have ne : e.b ≠ d := fun z => by
              rw [z] at ho
              have := (ok2 e m).1
              rw [z, d2] at this
              cases this
            rw [upd_ne ne]
            exact s3 _ _ ho
          · rw [List.mem_singleton.mp m]
            exact newE
        · intro e m
          rcases List.mem_append.mp m with m | m
          · exact new1 e m
          · rw [List.mem_singleton.mp m]
            exact s1.free (s2.free nt)
        · rw [List.map_append]
          refine List.nodup_append.mpr ⟨nb1, List.nodup_cons.mpr ⟨List.not_mem_nil, List.nodup_nil⟩, fun x mx y my => ?_⟩
          obtain ⟨e, me, rfl⟩ := List.mem_map.mp mx
          rw [List.mem_singleton.mp my]
          exact ne_of_none (ok2 e me).1 nt
        · rw [List.map_append]
          refine List.nodup_append.mpr ⟨nd1, List.nodup_cons.mpr ⟨List.not_mem_nil, List.nodup_nil⟩, fun x mx y my => ?_⟩
          obtain ⟨e, me, rfl⟩ := List.mem_map.mp mx
          rw [List.mem_singleton.mp my]
          exact fresh e me
        · rw [et]
          exact kl1.add p1 bg1 nd1 kk hj z fresh r2 fun i hi => row_map (f := fun a => r * a % p) (by omega)
      | some w =>
        obtain ⟨e, me, ec, rfl⟩ := kvE_some hv
        obtain ⟨eb, el, ef, ecn, ebg⟩ := ok2 e me
        refine iteF ?_
        refine ⟨_, rfl, _, rfl, _, rfl, _, rfl, b, _, _, _, rfl, rfl, sb, atI_row jm, _, rfl, _, rfl, d, .ref e.b, rfl, ?_, ?_⟩
        · have g := DGet.k (k := Sum.inl ((j : Nat) : Int)) d2
          rw [hv] at g
          exact g
        refine ⟨p, row ms j, b, e.b, ms, e.es, rfl, sb, SqL.of eb, by omega, p1, p7, m0, m1, by omega, fun H3 t s3 nt ht => ?_⟩
        have zl : (List.zipWith (fun x y => (x - row ms j * y) % p) ms e.es).length = N := by rw [List.length_zipWith]; omega
        refine ⟨_, t, _, rfl, s2.trans s3, .inl (SqL.of ht), zl, ?_, fun k hk => ?_, kk.step me (c := row ms j) fun i hi => row_zip (by omega) (by omega)⟩
        · intro x m
          obtain ⟨n, hn, rfl⟩ := List.mem_iff_getElem.mp m
          rw [List.getElem_zipWith]
          exact ⟨Int.emod_nonneg _ (by omega), Int.emod_lt_of_pos _ (by omega)⟩
        · rw [row_zip (by omega) (by omega)]
          by_cases h : k = j
          · rw [h]
            have : row e.es j = 1 := by rw [← ec]; exact ebg.2
            rw [this, Int.mul_one, Int.sub_self, Int.zero_emod]
          · have : row e.es k = 0 := ebg.1 k (by omega)
            rw [z k (by omega), this, Int.mul_zero, Int.sub_self, Int.zero_emod]
    · -- all columns are 0
      rintro σ H2 ⟨y5, b, ms, rfl, s2, sb, ml, fm, z, kk⟩
      refine ⟨_, _, _, E, rfl, s1.trans s2, s2 _ _ d1, (fun e m => ent_keep (ok1 e m) fun o h => s2 _ _ h), new1, nb1, nd1, ?_⟩
      rw [et]
      exact kl1.same kk z
  · rintro σ H1 ⟨y3, y4, y5, E, rfl, s1, d1, ok1, new1, nb1, nd1, kl1⟩
    rw [List.length_map, alen, List.take_length] at kl1
    have dle : E.length ≤ N := by
      have := few nd1 (N := N) fun c m => by
        obtain ⟨e, me, rfl⟩ := List.mem_map.mp m
        exact (ok1 e me).2.2.2.1
      rw [List.length_map] at this
      exact this
    exact ⟨_, rfl, q H1 d E s1 nd d1 ok1 new1 nb1 nd1 dle kl1⟩
/-! ### rank -/
end
end K32
set_option Elab.async false
set_option linter.all false
set_option maxRecDepth 100000
set_option pp.maxSteps 500
set_option pp.deepTerms.threshold 8
set_option pp.deepTerms false
namespace K32
open PySem PySem.Spec PyProof.Rows L2 Lj
section
/-- a list of lists of numbers -/
def LL (K : PySem.W.Frag) (H : Hp) (v : V) (R : List (List Int)) : Prop := ∃ (c : Addr) (as : List Addr), v = .ref c ∧ SqL K H c (as.map V.ref) ∧ Paired (fun a ns => SqL K H a (ns.map V.int)) as R
def spEchW (K : PySem.W.Frag) : Sp := fun vs H Q _ => ∃ (p : Int) (v : V) (R : List (List Int)) (N : Nat), vs = [.int p, v] ∧ LL K H v R ∧ (∀ ns ∈ R, ns.length = N ∧ Fe p ns) ∧ N ≤ 1000 ∧ p ≤ 10007 ∧ PInv p ∧ (∀ a, 0 < a → a < p → K02.Cop p a) ∧
  ∀ H' d E, Same H H' → H d = none → H' d = some (.dK (kvE E)) → (∀ e ∈ E, EntOk p N H' e) → (E.map (·.c)).Nodup → E.length ≤ N → (∀ v, Kl p N v R ↔ KlE p N v E) → Q (.ref d) H'
theorem ech_weak {K : PySem.W.Frag} : ∀ vs H Q E, spEchW K vs H Q E → spEch K vs H Q E := fun vs H Q E ⟨p, v, R, N, e, ⟨c, as, ev, sc, pa⟩, ok, hN, p7, pi, cop, q⟩ =>
  ⟨p, v, R, N, e, ⟨c, as, ev, .inl sc, L2.Paired.mapP pa fun a ns z => .inl z⟩, ok, by omega, p7, pi, cop, fun H' d E s nd hd ok' _ _ nod el eo => q H' d E s nd hd ok' nod el fun v => ⟨fun h e' me => by
    exact kill_of_span ((eo.sp _).mp (InSp.mem (List.mem_map.mpr ⟨e', me, rfl⟩))) fun r mr => by
      obtain ⟨ns, mn, rfl⟩ := List.mem_map.mp mr
      exact h ns mn, fun h ns mn => by
    exact kill_of_span ((eo.sp _).mpr (InSp.mem (List.mem_map.mpr ⟨ns, mn, rfl⟩))) fun r mr => by
      obtain ⟨e', me, rfl⟩ := List.mem_map.mp mr
      exact h e' me⟩⟩
end
section
variable {P : Program} {w : World} {K : PySem.W.Frag} {mg : Str → Option Value} {base : Heap}
theorem ix_LTK {X : Cx} {K : PySem.W.Frag} (h : X.K = K) : IxR X (rIxLT K) := h ▸ ix_LT
/-- a list of rows of numbers, each a list or a tuple -/
def TT (K : PySem.W.Frag) (H : Hp) (v : V) (R : List (List Int)) : Prop := ∃ (c : Addr) (as : List Addr), v = .ref c ∧ H c = some (.lst (as.map V.ref)) ∧ Paired (fun a ns => LTa K H a (ns.map V.int)) as R
theorem TT.same {K : PySem.W.Frag} {H H' : Hp} {v : V} {R : List (List Int)} (s : Same H H') (h : TT K H v R) : TT K H' v R := by
  obtain ⟨c, as, e, q, p⟩ := h
  exact ⟨c, as, e, s _ _ q, L2.Paired.mapP p fun a ns z => LTa.same s z⟩
/-- place i of each row, then of the row itself -/
def eqL (R : List (List Int)) (x : List Int) (i : Nat) : List Int := R.map (fun r => row r i) ++ [row x i]
theorem eqL_len (R : List (List Int)) (x : List Int) (i : Nat) : (eqL R x i).length = R.length + 1 := by
  unfold eqL
  rw [List.length_append, List.length_map]
  rfl
theorem eqL_row (R : List (List Int)) (x : List Int) (i k : Nat) (hk : k < R.length + 1) : row (eqL R x i) k = eqn (R.map row) (row x) i k := by
  unfold eqn
  rw [List.length_map]
  refine row_get ?_
  unfold eqL
  by_cases h : k < R.length
  · rw [if_pos h, List.getElem?_append_left (by rw [List.length_map]; exact h), List.getElem?_map, List.getElem?_eq_getElem h, List.getD_eq_getElem?_getD, List.getElem?_map, List.getElem?_eq_getElem h]
    rfl
  · have e : k = R.length := by omega
    rw [if_neg h, e, List.getElem?_append_right (by rw [List.length_map]; exact Nat.le_refl _), List.length_map, Nat.sub_self]
    rfl
def spEqs (K : PySem.W.Frag) : Sp := fun vs H Q _ => ∃ (v : V) (x : Addr) (R : List (List Int)) (xs : List Int) (L : Nat), vs = [v, .ref x] ∧ TT K H v R ∧ LTa K H x (xs.map V.int) ∧ xs.length = L ∧ (∀ r ∈ R, r.length = L) ∧ L ≤ 1000 ∧ R.length ≤ 900 ∧
  ∀ H' v', Same H H' → LL K H' v' ((List.range L).map (eqL R xs)) → Q v' H'
def eqSc : Scope := { kind := .function, names := [(".0", .local), ("place", .cell), ("row", .cell), ("rows", .cell)], isGenerator := false, isCoroutine := false }
theorem ok_eqs (M : Bl mg) (F : At K mg "equations" sEquations ["rows", "row"]) {k : Nat} : Has P w K mg base (k + 1) "equations" ["rows", "row"] (spEqs K) := by
  refine Has.by F scEquations (fun vs H Q E h => ?_) (fun g cdv A out s H vs Q E hg hr h => ?_)
  · obtain ⟨_, _, _, _, _, rfl, _⟩ := h
    rfl
  obtain ⟨v, x, R, xs, L, rfl, ⟨c, as, rfl, sq, pa⟩, sx, xl, hR, hL, hRl, q⟩ := h
  refine ⟨_, (pss_one (ps_ret (pe_lc (own := [("place", 2)]) (g := gName 2) (by rfl) scEquations.nd (pi_range1 (by rfl) M.range_ (pa_cons (pe_callB call_len_seq (by rfl) M.len_ (by decide +kernel) (pa_cons (pv 1) pa_nil)) pa_nil)) (blkOk_by (own := [("place", 2)]) (N := ["rows", "row", "place", "known"]) (sc := defScope sEquations) (by decide +kernel)) (fun _ _ _ _ _ => (pg_name (i := 2) scEquations.nd rfl (.inr rfl))) (fun _ _ _ _ _ => pts_nil)
   (fun _ _ _ _ _ => (pe_op op_cat (pe_lc (own := [("known", 3)]) (g := gName 3) (by rfl) scEquations.nd (pi_listK (K := K) rfl (pv 0)) (blkOk_by (own := [("known", 3)]) (N := ["rows", "row", "place", "known"]) (sc := eqSc) (by decide +kernel)) (fun _ _ _ _ _ => (pg_name (i := 3) scEquations.nd rfl (.inl rfl))) (fun _ _ _ _ _ => pts_nil) (fun _ _ _ _ _ => (pe_ix (ix_LTK (K := K) rfl) (pv 3) (pv 2) (fun _ _ => rfl)))) (pe_lst (pa_cons (pe_ix (ix_LTK (K := K) rfl) (pv 1) (pv 2) (fun _ _ => rfl)) pa_nil))))))), ?_⟩
  refine ⟨_, rfl, x, _, rfl, sx, ?_⟩
  rw [List.length_map, xl]
  refine ⟨_, rfl, by omega, by omega, fun D nD => ?_⟩
  refine lc_range (lo := 0) (n := L) (fun i H' => ∃ bs : List Addr, H' D = some (.lst (bs.map V.ref)) ∧ Paired (fun b ns => H' b = some (.lst (ns.map V.int)) ∧ b ≠ D) bs ((List.range i).map (eqL R xs)) ∧ Same H H') ⟨[], upd_same, .nil, same_new nD⟩ ?_ ?_
  · rintro i H1 hi ⟨bs, e1, e2, e3⟩
    refine ⟨rfl, ?_⟩
    have z0 : (0 : Int) + (i : Nat) = (i : Nat) := by omega
    have alen : as.length = R.length := Paired.length pa
    refine ⟨_, rfl, c, rfl, ⟨_, SqL.of (e3 _ _ sq)⟩, fun D2 nD2 => ?_⟩
    have nDD : D2 ≠ D := (ne_of_none e1 nD2).symm
    have nH2 : H D2 = none := e3.free nD2
    refine lc_list (xs := as.map V.ref) (fun j H' => H' D2 = some (.lst (((R.take j).map fun r => row r i).map V.int)) ∧ Same H1 H') ⟨upd_same, same_new nD2⟩ (fun j H' _ h => SqL.of ((e3.trans h.2) _ _ sq)) ?_ ?_
    · rintro j y H2 hy ⟨f1, f2⟩
      rw [List.getElem?_map] at hy
      obtain ⟨a, ea, rfl⟩ := Option.map_eq_some_iff.mp hy
      obtain ⟨r, er, sa⟩ := paired_get pa ea
      have rl := hR r (List.mem_of_getElem? er)
      refine ⟨rfl, _, rfl, _, rfl, a, _, _, .int (row r i), rfl, rfl, LTa.same (e3.trans f2) sa, ?_, _, f1, ?_, ?_, fun b o ho => ?_⟩
      · rw [z0]
        exact atI_row (by omega)
      · rw [List.length_map, List.length_map, List.length_take, sizeLine_eq]
        omega
      · rw [upd_same, List.take_add_one, er, List.map_append, List.map_append]
        rfl
      · rw [upd_ne (ne_of_none ho nD2)]
        exact f2 _ _ ho
    rintro H2 ⟨f1, f2⟩
    rw [List.length_map, alen, List.take_length] at f1
    refine ⟨_, rfl, _, rfl, x, _, _, _, rfl, rfl, LTa.same (e3.trans f2) sx, by rw [z0]; exact atI_row (by omega), (by show 1 ≤ sizeLine; decide), fun t nt => ?_⟩
    have st := same_new (o := .lst [V.int (row xs i)]) nt
    refine ⟨D2, t, _, _, rfl, rfl, st _ _ f1, upd_same, ?_, fun u nu => ?_⟩
    · rw [List.length_map, List.length_map, sizeLine_eq]
      show R.length + 1 ≤ _
      omega
    have su := same_new (o := .lst (((R.map fun r => row r i).map V.int) ++ [V.int (row xs i)])) nu
    have s12 : Same H1 _ := (f2.trans st).trans su
    have eD := s12 _ _ e1
    have nuD : u ≠ D := (ne_of_none ((f2.trans st) _ _ e1) nu).symm
    refine ⟨_, eD, ?_, bs ++ [u], ?_, ?_, fun b o ho => ?_⟩
    · have := Paired.length e2
      rw [List.length_map, List.length_range] at this
      rw [List.length_map, this, sizeLine_eq]
      omega
    · rw [upd_same, List.map_append]
      rfl
    · rw [List.range_succ, List.map_append]
      refine paired_app (L2.Paired.mapP e2 fun b ns z => ⟨(upd_ne z.2).trans (s12 _ _ z.1), z.2⟩) (.cons ⟨?_, nuD⟩ .nil)
      rw [upd_ne nuD, upd_same]
      unfold eqL
      rw [List.map_append]
      rfl
    · rw [upd_ne (ne_of_none ho nD)]
      exact s12 _ _ (e3 _ _ ho)
  · rintro H1 ⟨bs, e1, e2, e3⟩
    exact q H1 _ e3 ⟨D, bs, rfl, SqL.of e1, L2.Paired.mapP e2 fun b ns z => SqL.of z.1⟩
/-! ### weights -/
/-- rows of field elements -/
def Rows (p : Int) (L : Nat) (R : List (List Int)) : Prop := ∀ r ∈ R, r.length = L ∧ Fe p r
def spWts (K : PySem.W.Frag) : Sp := fun vs H Q _ => ∃ (p : Int) (v : V) (x : Addr) (R : List (List Int)) (xs : List Int) (L : Nat), vs = [.int p, v, .ref x] ∧ TT K H v R ∧ LTa K H x (xs.map V.int) ∧ xs.length = L ∧ Fe p xs ∧ Rows p L R ∧ L ≤ 900 ∧ R.length ≤ 900 ∧ p ≤ 10007 ∧ PInv p ∧ (∀ a, 0 < a → a < p → K02.Cop p a) ∧
  (¬ InSp p L (R.map row) (row xs) → ∀ H', Same H H' → Q .non H') ∧ (∀ u, Wts p L (R.map row) (row xs) u → ∀ H' t, Same H H' → SqT K H' t (u.map V.int) → Q (.ref t) H')
theorem eqL_fe {p : Int} {L : Nat} {R : List (List Int)} {x : List Int} {i : Nat} (hi : i < L) (hR : Rows p L R) (xl : x.length = L) (hx : Fe p x) : Fe p (eqL R x i) := fun a m => by
  unfold eqL at m
  rcases List.mem_append.mp m with m | m
  · obtain ⟨r, mr, rfl⟩ := List.mem_map.mp m
    obtain ⟨rl, rf⟩ := hR r mr
    exact rf.row (by omega)
  · rw [List.mem_singleton.mp m]
    exact hx.row (by omega)
theorem lead_of {p : Int} {L : Nat} {R : List (List Int)} {x : List Int} {E : List Ent} {H : Hp} (ok : ∀ e ∈ E, EntOk p (R.length + 1) H e) (kl : ∀ v, Kl p (R.length + 1) v ((List.range L).map (eqL R x)) ↔ KlE p (R.length + 1) v E) :
    Lead p (R.map row) (row x) L (fun c f => ∃ e ∈ E, e.c = c ∧ row e.es = f) := by
  constructor
  · rintro c f ⟨e, m, rfl, rfl⟩
    rw [List.length_map]
    have := (ok e m).2.2.2
    exact ⟨by omega, this.2⟩
  · intro v
    rw [List.length_map]
    have dq : ∀ i, dot (R.length + 1) (eqn (R.map row) (row x) i) v = dot (R.length + 1) (row (eqL R x i)) v := fun i => sumF_cong fun k hk => by rw [eqL_row R x i k hk]
    constructor
    · rintro h c f ⟨e, m, rfl, rfl⟩
      refine (kl v).mp (fun ns mn => ?_) e m
      obtain ⟨i, mi, rfl⟩ := List.mem_map.mp mn
      rw [← dq]
      exact h i (List.mem_range.mp mi)
    · intro h i hi
      rw [dq]
      exact (kl v).mpr (fun e m => h _ _ ⟨e, m, rfl, rfl⟩) _ (List.mem_map.mpr ⟨i, List.mem_range.mpr hi, rfl⟩)
end
end K32
set_option Elab.async false
set_option linter.all false
set_option maxRecDepth 100000
set_option pp.maxSteps 500
set_option pp.deepTerms.threshold 8
set_option pp.deepTerms false
namespace K32
open PySem PySem.Spec PyProof.Rows L2 Lj
section
variable {P : Program} {w : World} {K : PySem.W.Frag} {mg : Str → Option Value} {base : Heap}
theorem range_sum (f : Nat → Int) : ∀ n : Nat, ((List.range n).map f).sum = sumF f n
  | 0 => rfl
  | n + 1 => by
    rw [List.range_succ, List.map_append, List.sum_append, range_sum f n, sumF]
    show _ + (f n + 0) = _
    rw [Int.add_zero]
theorem atI_last {ns : List Int} {m : Nat} (h : ns.length = m + 1) : atI (ns.map V.int) (-1) = some (.int (row ns m)) := by
  unfold atI ixN
  rw [if_neg (by decide), List.length_map, h, if_pos (by omega)]
  show (ns.map V.int)[((-1 : Int) + ((m + 1 : Nat) : Int)).toNat]? = _
  rw [show ((-1 : Int) + ((m + 1 : Nat) : Int)).toNat = m by omega]
  exact row_int (by omega)
theorem row_set {ns : List Int} {j i : Nat} {a : Int} (hj : j < ns.length) : row (ns.set j a) i = if i = j then a else row ns i := by
  unfold row
  rw [List.getD_eq_getElem?_getD, List.getD_eq_getElem?_getD, List.getElem?_set]
  by_cases e : j = i
  · rw [if_pos e, if_pos (by omega), if_pos e.symm]
    rfl
  · rw [if_neg e, if_neg fun z => e z.symm]
theorem fe_set {p a : Int} {ns : List Int} {j : Nat} (h : Fe p ns) (h0 : 0 ≤ a) (h1 : a < p) : Fe p (ns.set j a) := fun x m => by
  rcases List.mem_or_eq_of_mem_set m with m | rfl
  · exact h x m
  · exact ⟨h0, h1⟩
theorem fe_zero {p : Int} (hp : 0 < p) (n : Nat) : Fe p (List.replicate n 0) := fun x m => by
  rw [(List.mem_replicate.mp m).2]
  exact ⟨Int.le_refl 0, hp⟩
theorem row_rep (n i : Nat) : row (List.replicate n 0) i = 0 := by
  by_cases h : i < n
  · refine row_get ?_
    rw [List.getElem?_replicate, if_pos h]
  · exact row_out (by rw [List.length_replicate]; omega)
/-- the step of the way back -/
theorem back_step {p : Int} {m c : Nat} {es F : List Int} (hc : c < m) (fl : F.length = m) (bg : Begins c (row es)) : p ∣ dot (m + 1) (row es) (ext m (row (F.set c ((row es m - sumF (fun i => row es (c + 1 + i) * row F (c + 1 + i)) (m - (c + 1))) % p)))) := by
  rw [dot_begins bg (by omega), show m + 1 - (c + 1) = (m - (c + 1)) + 1 by omega, sumF, show c + 1 + (m - (c + 1)) = m by omega]
  have e1 : ∀ a, ext m (row (F.set c a)) c = a := fun a => by
    unfold ext
    rw [if_pos hc, row_set (by omega), if_pos rfl]
  have e2 : ∀ a, ext m (row (F.set c a)) m = -1 := fun a => by
    unfold ext
    rw [if_neg (Nat.lt_irrefl _)]
  have e3 : ∀ a, sumF (fun i => row es (c + 1 + i) * ext m (row (F.set c a)) (c + 1 + i)) (m - (c + 1)) = sumF (fun i => row es (c + 1 + i) * row F (c + 1 + i)) (m - (c + 1)) := fun a => sumF_cong fun k hk => by
    unfold ext
    rw [if_pos (by omega), row_set (by omega), if_neg (by omega)]
  rw [e1, e2, e3]
  obtain ⟨u, hu⟩ := emod_dvd p (row es m - sumF (fun i => row es (c + 1 + i) * row F (c + 1 + i)) (m - (c + 1)))
  exact ⟨u, by grind⟩
theorem back_keep {p a : Int} {m c d : Nat} {es F : List Int} (hc : c < d) (hd : d ≤ m) (fl : F.length = m) (bg : Begins d (row es)) (h : p ∣ dot (m + 1) (row es) (ext m (row F))) : p ∣ dot (m + 1) (row es) (ext m (row (F.set c a))) := by
  have e : dot (m + 1) (row es) (ext m (row (F.set c a))) = dot (m + 1) (row es) (ext m (row F)) := sumF_cong fun k hk => by
    by_cases z : k = c
    · rw [z, bg.1 c hc, Int.zero_mul, Int.zero_mul]
    · unfold ext
      rw [row_set (by omega), if_neg z]
  rw [e]
  exact h
theorem wts_of {p : Int} {L : Nat} {R : List (List Int)} {xs F : List Int} {E : List Ent} {H : Hp} (hp : 1 < p) (ok : ∀ e ∈ E, EntOk p (R.length + 1) H e) (kl : ∀ v, Kl p (R.length + 1) v ((List.range L).map (eqL R xs)) ↔ KlE p (R.length + 1) v E)
    (fl : F.length = R.length) (ff : Fe p F) (sol : ∀ e ∈ E, p ∣ dot (R.length + 1) (row e.es) (ext R.length (row F))) (z : ∀ k, (∀ e ∈ E, e.c ≠ k) → row F k = 0) : Wts p L (R.map row) (row xs) F := by
  have ld := lead_of ok kl
  refine ⟨by rw [List.length_map]; exact fl, ff, ?_, fun c hc nz => ?_⟩
  · exact ld.some (w := row F) fun c f ⟨e, m, ec, ef⟩ => by
      subst ef
      rw [List.length_map]
      exact sol e m
  · have : ∃ e ∈ E, e.c = c := Classical.byContradiction fun n => nz (z c fun e m ec => n ⟨e, m, ec⟩)
    obtain ⟨e, m, ec⟩ := this
    exact ld.new hp ⟨e, m, ec, rfl⟩ hc
theorem ok_wts (M : Bl mg) (m_sorted : mg "sorted" = none) (F : At K mg "weights" sWeights ["p", "rows", "row"]) {k : Nat} (h1 : Has P w K mg base k "echelon" ["p", "rows"] (spEchW K)) (h2 : Has P w K mg base k "equations" ["rows", "row"] (spEqs K)) :
    Has P w K mg base (k + 1) "weights" ["p", "rows", "row"] (spWts K) := by
  obtain ⟨_, _, cEchelon⟩ := h1
  obtain ⟨_, _, cEquations⟩ := h2
  refine Has.by F scWeights (fun vs H Q E h => ?_) (fun g cdv A out s H vs Q E hg hr h => ?_)
  · obtain ⟨_, _, _, _, _, _, rfl, _⟩ := h
    rfl
  obtain ⟨p, v, x, R, xs, L, rfl, tt, sx, xl, xf, hR, hL, hRl, p7, pi, cop, q1, q2⟩ := h
  have p1 := pi.1
  obtain ⟨c, as, rfl, sq, pa⟩ := id tt
  have alen : as.length = R.length := Paired.length pa
  refine ⟨_, (pss_cons (ps_set (i := 3) scWeights.nd rfl (.inl rfl) (pe_cal cEchelon hg hr (by rfl) (pa_cons (pv 0) (pa_cons (pe_cal cEquations hg hr (by rfl) (pa_cons (pv 1) (pa_cons (pv 2) pa_nil))) pa_nil))))
  (pss_cons (ps_if (pt_cmp (pc_din (un1 hr) (pe_callB call_len_seq (by rfl) M.len_ (by decide +kernel) (pa_cons (pv 1) pa_nil)) (pv 3)))
    (pss_one (ps_ret pe_non))
    pss_nil)
  (pss_cons (ps_set (i := 4) scWeights.nd rfl (.inr rfl) (pe_op op_rep (pe_lst (pa_cons pe_int pa_nil)) (pe_callB call_len_seq (by rfl) M.len_ (by decide +kernel) (pa_cons (pv 1) pa_nil))))
  (pss_cons (ps_for PassesOwn.never rfl (pi_list (pe_callBK (cr_sortDR (b := true) rfl) (by rfl) m_sorted (by decide +kernel) (pa_cons (pv 3) pa_nil) (pk_cons pe_bl pk_nil))) (pg_name (i := 5) scWeights.nd rfl (.inl rfl))
    (pss_cons (ps_set (i := 6) scWeights.nd rfl (.inr rfl) (pe_dget (un1 hr) (pv 3) (pv 5) (fun _ _ => rfl)))
  (pss_cons (ps_set (i := 7) scWeights.nd rfl (.inl rfl) (pe_callB (cr_sum rfl) (by rfl) M.sum_ (by decide +kernel) (pa_cons (pe_lc (own := [("k", 8)]) (g := gName 8) (by rfl) scWeights.nd (pi_range2 (by rfl) M.range_ (pa_cons (pe_op op_add (pv 5) pe_int) (pa_cons (pe_callB call_len_seq (by rfl) M.len_ (by decide +kernel) (pa_cons (pv 1) pa_nil)) pa_nil))) (blkOk_by (own := [("k", 8)]) (N := ["p", "rows", "row", "leading", "found", "column", "equation", "later", "k"]) (sc := defScope sWeights) (by decide +kernel)) (fun _ _ _ _ _ => (pg_name (i := 8) scWeights.nd rfl (.inl rfl))) (fun _ _ _ _ _ => pts_nil) (fun _ _ _ _ _ => (pe_op op_mul (pe_ix (ix_listK (K := K) rfl) (pv 6) (pv 8) (fun _ _ => rfl)) (pe_ix (ix_listK (K := K) rfl) (pv 4) (pv 8) (fun _ _ => rfl))))) pa_nil)))
  (pss_one (ps_asg (pe_op op_mod (pe_op op_sub (pe_ix ix_list (pv 6) (pe_un un_neg pe_int) (fun _ _ => rfl)) (pv 7)) (pv 0)) (pg_sub (pv 4) (pv 5) set_list))))))
  (pss_one (ps_ret (pe_callTy call_tuple_of (by rfl) M.tuple_ (by decide +kernel) (pa_cons (pv 4) pa_nil)))))))), ?_⟩
  refine ⟨_, rfl, _, rfl, _, rfl, _, x, R, xs, L, rfl, tt, sx, xl, fun r m => (hR r m).1, by omega, by omega, fun H1 v1 s1 ll => ?_⟩
  refine ⟨p, v1, _, R.length + 1, rfl, ll, fun ns m => ?_, by omega, p7, pi, cop, fun H2 d E s2 nd dk ok nod _ kl => ?_⟩
  · obtain ⟨i, mi, rfl⟩ := List.mem_map.mp m
    exact ⟨eqL_len R xs i, eqL_fe (List.mem_range.mp mi) hR xl xf⟩
  have s12 := s1.trans s2
  have sq2 := s12 _ _ sq
  refine ⟨_, rfl, c, _, rfl, .inl (SqL.of sq2), ?_⟩
  rw [List.length_map, alen]
  refine ⟨_, rfl, d, valV (kvE E) (Sum.inl ((R.length : Nat) : Int)), rfl, DGet.k (k := Sum.inl ((R.length : Nat) : Int)) dk, _, rfl, ?_⟩
  cases hv : valV (kvE E) (Sum.inl ((R.length : Nat) : Int)) with
  | some w =>
    obtain ⟨e, me, ec, _⟩ := kvE_some hv
    refine iteT (q1 ?_ H2 s12)
    have ld := lead_of ok kl
    exact ld.none p1 (e := row e.es) ⟨e, me, by rw [List.length_map]; exact ec, rfl⟩
  | none =>
    have nol := kvE_none.mp hv
    have ltR : ∀ e ∈ E, e.c < R.length := fun e m => by
      have h1 := (ok e m).2.2.2.1
      have h2 := nol e m
      omega
    refine iteF ?_
    refine ⟨(by show 1 ≤ sizeLine; decide), fun l nl => ⟨_, rfl, c, _, rfl, .inl (SqL.of ((same_new nl) _ _ sq2)), ?_⟩⟩
    rw [List.length_map, alen]
    refine ⟨l, _, _, rfl, rfl, upd_same, by omega, by omega, ?_, fun fo nfo => ?_⟩
    · rw [sizeLine_eq]
      show 1 * _ ≤ _
      omega
    rw [show ((R.length : Nat) : Int).toNat = R.length by omega, flat_zero]
    have s3 : Same H2 _ := (same_new (o := .lst [V.int 0]) nl).trans (same_new (o := .lst ((List.replicate R.length (0 : Int)).map V.int)) nfo)
    have nH2 : H2 fo = none := (same_new (o := .lst [V.int 0]) nl).free nfo
    have d3 := s3 _ _ dk
    refine ⟨_, rfl, d, kvE E, E.map (fun e => ((e.c : Nat) : Int)), rfl, rfl, .inl d3, ?_, ?_, fun ys so perm ord nso => ?_⟩
    · unfold kvE
      rw [List.map_map, List.map_map]
      rfl
    · rw [List.length_map]
      have : (E.map (·.c)).length ≤ R.length := few nod fun c m => by
        obtain ⟨e, me, rfl⟩ := List.mem_map.mp m
        exact ltR e me
      rw [List.length_map] at this
      omega
    have s4 := same_new (o := .lst (ys.map V.int)) nso
    have nso' : fo ≠ so := ne_of_none (upd_same (a := fo) (o := .lst ((List.replicate R.length (0 : Int)).map V.int))) nso
    have ymem : ∀ y ∈ ys, ∃ e ∈ E, y = ((e.c : Nat) : Int) := fun y m => by
      obtain ⟨e, me, rfl⟩ := List.mem_map.mp (perm.mem_iff.mp m)
      exact ⟨e, me, rfl⟩
    have ord' : ys.Pairwise (· ≥ ·) := ord
    refine ⟨so, rfl, ⟨_, SqL.of upd_same⟩, ?_⟩
    refine for_list (xs := ys.map V.int) (fun i σ H' => ∃ y5 y6 y7 F, σ = [some (.int p), some (.ref c), some (.ref x), some (.ref d), some (.ref fo), y5, y6, y7, none] ∧ But fo (upd _ so (.lst (ys.map V.int))) H' ∧ H' fo = some (.lst (F.map V.int)) ∧ F.length = R.length ∧ Fe p F ∧ (∀ k, (∀ e ∈ E, e.c = k → ((e.c : Nat) : Int) ∉ ys.take i) → row F k = 0) ∧ ∀ e ∈ E, ((e.c : Nat) : Int) ∈ ys.take i → p ∣ dot (R.length + 1) (row e.es) (ext R.length (row F)))
      ⟨_, _, _, _, rfl, But.refl _ _, s4 _ _ upd_same, List.length_replicate, fe_zero (by omega) _, (fun k _ => row_rep _ _), fun e _ m => by rw [List.take_zero] at m; exact absurd m List.not_mem_nil⟩ (fun i σ H' _ ⟨_, _, _, _, _, b, _⟩ => b.seq nso'.symm (SqL.of upd_same)) ?_ ?_
    · rintro i y σ H5 hy ⟨y5, y6, y7, F, rfl, b5, fo5, fl, ff, fz, sol⟩
      rw [List.getElem?_map] at hy
      obtain ⟨z, ez, rfl⟩ := Option.map_eq_some_iff.mp hy
      obtain ⟨e, me, rfl⟩ := ymem z (List.mem_of_getElem? ez)
      have ec := ltR e me
      obtain ⟨eb, el, ef, _, ebg⟩ := ok e me
      have dne : d ≠ fo := ne_of_none dk nH2
      have ene : e.b ≠ fo := ne_of_none eb nH2
      have d5 := b5 _ _ dne (s4 _ _ d3)
      have eb5 := b5 _ _ ene (s4 _ _ (s3 _ _ eb))
      refine ⟨_, rfl, _, rfl, d, .ref e.b, rfl, ?_, ?_⟩
      · have g := DGet.k (k := Sum.inl ((e.c : Nat) : Int)) d5
        cases hw : valV (kvE E) (Sum.inl ((e.c : Nat) : Int)) with
        | none => exact absurd rfl (kvE_none.mp hw e me)
        | some u =>
          obtain ⟨e', me', ec', rfl⟩ := kvE_some hw
          have : e' = e := by
            have h := List.pairwise_iff_getElem.mp (List.nodup_iff_pairwise_ne.mp nod)
            obtain ⟨i1, h1, g1⟩ := List.mem_iff_getElem.mp me'
            obtain ⟨i2, h2, g2⟩ := List.mem_iff_getElem.mp me
            rcases Nat.lt_trichotomy i1 i2 with lt | eq | gt
            · have := h i1 i2 (by rw [List.length_map]; exact h1) (by rw [List.length_map]; exact h2) lt
              rw [List.getElem_map, List.getElem_map, g1, g2] at this
              exact absurd ec' this
            · subst eq
              exact g1.symm.trans g2
            · have := h i2 i1 (by rw [List.length_map]; exact h2) (by rw [List.length_map]; exact h1) gt
              rw [List.getElem_map, List.getElem_map, g1, g2] at this
              exact absurd ec'.symm this
          subst this
          rw [hw] at g
          exact g
      -- the sum
      refine ⟨_, rfl, _, _, rfl, rfl, _, rfl, c, as.map V.ref, rfl, .inl ?_, ?_⟩
      · exact SqL.of (b5 _ _ (ne_of_none sq2 nH2) ((s3.trans s4) _ _ sq2))
      rw [List.length_map, alen]
      refine ⟨_, _, rfl, ⟨by omega, by omega, by omega, by omega⟩, fun D nD => ?_⟩
      have sD := same_new (o := .lst []) nD
      have hn : (((R.length : Nat) : Int) - (((e.c : Nat) : Int) + 1)).toNat = R.length - (e.c + 1) := by omega
      refine lc_range (lo := ((e.c : Nat) : Int) + 1) (n := (((R.length : Nat) : Int) - (((e.c : Nat) : Int) + 1)).toNat) (fun j H' => H' D = some (.lst (((List.range j).map fun t => row e.es (e.c + 1 + t) * row F (e.c + 1 + t)).map V.int)) ∧ Same H5 H') ⟨upd_same, sD⟩ ?_ ?_
      · rintro j H6 hj ⟨f1, f2⟩
        have ej : ((e.c : Nat) : Int) + 1 + (j : Nat) = ((e.c + 1 + j : Nat) : Int) := by omega
        obtain ⟨b0, b1⟩ := ef.row (i := e.c + 1 + j) (by omega)
        refine ⟨rfl, _, rfl, _, rfl, e.b, _, _, .int (row e.es (e.c + 1 + j)), rfl, rfl, SqL.of (f2 _ _ eb5), by rw [ej]; exact atI_row (by omega), _, rfl, _, rfl, fo, _, _, .int (row F (e.c + 1 + j)), rfl, rfl, SqL.of (f2 _ _ fo5), by rw [ej]; exact atI_row (by omega), _, _, rfl, rfl, .inl ⟨by omega, by omega⟩, _, f1, ?_, ?_, fun b o ho => ?_⟩
        · rw [List.length_map, List.length_map, List.length_range, sizeLine_eq]
          omega
        · rw [upd_same, List.range_succ, List.map_append, List.map_append]
          rfl
        · rw [upd_ne (ne_of_none ho nD)]
          exact f2 _ _ ho
      rintro H6 ⟨f1, f2⟩
      rw [hn] at f1
      refine ⟨D, _, rfl, SqL.of f1, ?_⟩
      rw [range_sum]
      have eb6 := f2 _ _ eb5
      have fo6 := f2 _ _ fo5
      refine ⟨_, rfl, 1, rfl, e.b, _, _, .int (row e.es R.length), rfl, rfl, SqL.of eb6, atI_last el, _, rfl, _, _, rfl, rfl, _, rfl, _, p, rfl, rfl, by omega, ?_⟩
      refine ⟨_, rfl, _, rfl, fo, _, _, e.c, rfl, rfl, fo6, ?_, ?_⟩
      · rw [List.length_map, fl]
        exact Evl.ixN_nat (by omega)
      have set_ : (F.map V.int).set e.c (.int ((row e.es R.length - sumF (fun t => row e.es (e.c + 1 + t) * row F (e.c + 1 + t)) (R.length - (e.c + 1))) % p)) = (F.set e.c ((row e.es R.length - sumF (fun t => row e.es (e.c + 1 + t) * row F (e.c + 1 + t)) (R.length - (e.c + 1))) % p)).map V.int := by rw [List.map_set]
      rw [set_]
      have tk : ys.take (i + 1) = ys.take i ++ [((e.c : Nat) : Int)] := by rw [List.take_add_one, ez]; rfl
      refine ⟨_, _, _, _, rfl, fun b o ne ho => ?_, upd_same, by rw [List.length_set]; exact fl, fe_set ff (Int.emod_nonneg _ (by omega)) (Int.emod_lt_of_pos _ (by omega)), fun k hk => ?_, fun e' me' h' => ?_⟩
      · rw [upd_ne ne]
        exact f2 _ _ (b5 _ _ ne ho)
      · have kne : k ≠ e.c := fun z => hk e me z.symm (by rw [tk]; exact List.mem_append_right _ List.mem_cons_self)
        rw [row_set (by omega), if_neg kne]
        exact fz k fun e' me' ek hm => hk e' me' ek (by rw [tk]; exact List.mem_append_left _ hm)
      · rw [tk] at h'
        obtain ⟨eb', el', ef', ec', ebg'⟩ := ok e' me'
        by_cases z : e'.c = e.c
        · have ee : Begins e.c (row e'.es) := z ▸ ebg'
          -- the same entry, by its column
          have : e' = e := by
            have h := List.pairwise_iff_getElem.mp (List.nodup_iff_pairwise_ne.mp nod)
            obtain ⟨i1, h1, g1⟩ := List.mem_iff_getElem.mp me'
            obtain ⟨i2, h2, g2⟩ := List.mem_iff_getElem.mp me
            rcases Nat.lt_trichotomy i1 i2 with lt | eq | gt
            · have := h i1 i2 (by rw [List.length_map]; exact h1) (by rw [List.length_map]; exact h2) lt
              rw [List.getElem_map, List.getElem_map, g1, g2] at this
              exact absurd z this
            · subst eq
              exact g1.symm.trans g2
            · have := h i2 i1 (by rw [List.length_map]; exact h2) (by rw [List.length_map]; exact h1) gt
              rw [List.getElem_map, List.getElem_map, g1, g2] at this
              exact absurd z.symm this
          subst this
          exact back_step ec fl ebg
        · have h2 : ((e'.c : Nat) : Int) ∈ ys.take i := by
            rcases List.mem_append.mp h' with h' | h'
            · exact h'
            · have := List.mem_singleton.mp h'
              omega
          obtain ⟨n, hn, en⟩ := List.mem_iff_getElem.mp h2
          rw [List.length_take] at hn
          rw [List.getElem_take] at en
          have il : i < ys.length := (List.getElem?_eq_some_iff.mp ez).1
          have ge := List.pairwise_iff_getElem.mp ord' n i (by omega) il (by omega)
          rw [en, (List.getElem?_eq_some_iff.mp ez).2] at ge
          exact back_keep (by omega) (by omega) fl ebg' (sol e' me' h2)
    · rintro σ H5 ⟨y5, y6, y7, F, rfl, b5, fo5, fl, ff, fz, sol⟩
      rw [List.length_map, List.take_length] at fz sol
      have all_ : ∀ e ∈ E, ((e.c : Nat) : Int) ∈ ys := fun e m => perm.mem_iff.mpr (List.mem_map.mpr ⟨e, m, rfl⟩)
      refine ⟨_, rfl, fo, _, rfl, .inl ⟨SqL.of fo5, fun t nt => ?_⟩⟩
      refine q2 F (wts_of p1 ok kl fl ff (fun e m => sol e m (all_ e m)) fun k hk => fz k fun e m ek => absurd ek (hk e m)) _ t (fun b o ho => ?_) (SqT.of upd_same)
      have st := same_new (o := .tup (F.map V.int)) nt
      have h2 := s12 _ _ ho
      exact st _ _ (b5 _ _ (ne_of_none h2 nH2) (s4 _ _ (s3 _ _ h2)))
end
end K32
set_option Elab.async false
set_option linter.all false
set_option maxRecDepth 100000
set_option pp.maxSteps 500
set_option pp.deepTerms.threshold 8
set_option pp.deepTerms false
namespace K32
open PySem PySem.Spec PyProof.Rows L2 Lj
section
variable {P : Program} {w : World} {K : PySem.W.Frag} {mg : Str → Option Value} {base : Heap}
/-! ### size -/
theorem ok_size1 (M : Bl mg) (F : At K mg "size" sSize ["program"]) {n k : Nat} (h : Has P w K mg base k "size" ["program"] (spTI K (okB n) szs)) : Has P w K mg base (k + 1) "size" ["program"] (spTI K (okB (n + 1)) szs) := by
  obtain ⟨fS, fdS, cSize⟩ := h
  refine Has.by F scSize (fun vs H Q E h => ?_) (fun f cdv A out s H vs Q E hg hr h => ?_)
  · obtain ⟨v, t, rfl, _⟩ := h
    rfl
  obtain ⟨v, b, rfl, ⟨c, us, rfl, sq, r⟩, ok, q⟩ := h
  refine ⟨_, (pss_cons (ps_set (i := 1) scSize.nd rfl (.inl rfl) (pe_callB call_len_seq (by rfl) M.len_ (by decide +kernel) (pa_cons (pv 0) pa_nil)))
  (pss_cons (ps_for PassesOwn.never rfl (pi_tup (pv 0)) (pg_name (i := 2) scSize.nd rfl (.inl rfl))
    (pss_one (ps_if (pt_cmpR op_eq (pe_ix ix_tup (pv 2) pe_int (fun _ _ => rfl)) pe_str (nomark _))
    (pss_one (ps_aug (i := 1) scSize.nd rfl (.inl rfl) (pe_cal cSize hg hr (by rfl) (pa_cons (pe_ix ix_tup (pv 2) pe_int (fun _ _ => rfl)) pa_nil)) ip_add))
    pss_nil)))
  (pss_one (ps_ret (pv 1))))), ?_⟩
  refine ⟨_, rfl, c, us, rfl, .inr sq, ?_⟩
  refine ⟨_, rfl, c, rfl, ⟨_, sq⟩, ?_⟩
  refine for_tup (xs := us) (fun i σ H' => ∃ y, σ = [some (.ref c), some (.int ((us.length : Int) + ((b.take i).map Tr.inn).sum)), y] ∧ Same H H') ⟨none, ?_, Same.refl H⟩ (fun i σ H' _ h => ?_) ?_ ?_
  · show _ = [some (V.ref c), some (V.int ((us.length : Int) + 0)), none]
    rw [Int.add_zero]
    rfl
  · obtain ⟨_, _, h⟩ := h
    exact (Kt.same h).sq sq
  · rintro i x σ H' hx ⟨y, rfl, e2⟩
    obtain ⟨t, ht, hT⟩ := r.get hx
    have hT := TrAt.kt (Kt.same e2) t x hT
    cases t with
    | op u as =>
      rw [TrAt] at hT
      obtain ⟨a, rfl, sq3⟩ := hT
      refine ⟨_, rfl, a, _, 0, .str u, rfl, rfl, sq3, at0, rfl, _, rfl, iteN (fun e => okB_op ok ht (V.str.inj e)) ?_⟩
      refine ⟨some (.ref a), ?_, e2⟩
      rw [sum_next ht]
      show _ = [_, some (V.int ((us.length : Int) + (((b.take i).map Tr.inn).sum + 0))), _]
      rw [Int.add_zero]
      rfl
    | loop m b' =>
      rw [TrAt] at hT
      obtain ⟨a, d, ws, rfl, sq3, sq4, r2⟩ := hT
      obtain ⟨c0, c1, ok2⟩ := okB_loop ok ht
      refine ⟨_, rfl, a, _, 0, .str "loop", rfl, rfl, sq3, rfl, rfl, _, rfl, iteP rfl ?_⟩
      refine ⟨_, rfl, _, rfl, a, _, 2, .ref d, rfl, rfl, sq3, rfl, _, b', rfl, ⟨d, ws, rfl, sq4, r2⟩, ok2, fun H2 sm => ?_⟩
      refine ⟨_, _, rfl, rfl, some (.ref a), ?_, e2.trans sm⟩
      rw [sum_next ht]
      show _ = [_, some (V.int ((us.length : Int) + (((b.take i).map Tr.inn).sum + Tr.inn (.loop m b')))), _]
      rw [Tr.inn, ← Int.add_assoc]
      rfl
  · rintro σ H' ⟨y, rfl, e2⟩
    rw [r.length, take_all, ← inns_map]
    exact ⟨_, rfl, q H' e2⟩
theorem ok_size (M : Bl mg) (F : At K mg "size" sSize ["program"]) : ∀ n, Has P w K mg base n "size" ["program"] (spTI K (okB n) szs)
  | 0 => Has.none F fun vs H Q E ⟨_, _, _, _, h, _⟩ => h
  | n + 1 => ok_size1 M F (ok_size M F n)
/-! ### depth -/
theorem deps_next : ∀ {b : List Tr} {i : Nat} {t : Tr}, b[i]? = some t → deps (b.take (i + 1)) = if t.dep > deps (b.take i) then t.dep else deps (b.take i)
  | [], i, t, e => by simp at e
  | a :: r, 0, t, e => by
    cases e
    show deps [a] = _
    rw [deps]
    rfl
  | a :: r, i + 1, t, e => by
    have ih := deps_next (b := r) (i := i) e
    rw [List.take_succ_cons, List.take_succ_cons, deps, deps, ih]
    grind
theorem ok_depth1 (M : Bl mg) (F : At K mg "depth" sDepth ["program"]) {n k : Nat} (h : Has P w K mg base k "depth" ["program"] (spTI K (okB n) deps)) : Has P w K mg base (k + 1) "depth" ["program"] (spTI K (okB (n + 1)) deps) := by
  obtain ⟨fS, fdS, cDepth⟩ := h
  refine Has.by F scDepth (fun vs H Q E h => ?_) (fun f cdv A out s H vs Q E hg hr h => ?_)
  · obtain ⟨v, t, rfl, _⟩ := h
    rfl
  obtain ⟨v, b, rfl, ⟨c, us, rfl, sq, r⟩, ok, q⟩ := h
  refine ⟨_, (pss_cons (ps_set (i := 1) scDepth.nd rfl (.inl rfl) pe_int)
  (pss_cons (ps_for PassesOwn.never rfl (pi_tup (pv 0)) (pg_name (i := 2) scDepth.nd rfl (.inl rfl))
    (pss_one (ps_if (pt_cmpR op_eq (pe_ix ix_tup (pv 2) pe_int (fun _ _ => rfl)) pe_str (nomark _))
    (pss_one (ps_set (i := 1) scDepth.nd rfl (.inl rfl) (pe_callB (call_max2 rfl) (by rfl) M.max_ (by decide +kernel) (pa_cons (pv 1) (pa_cons (pe_op op_add pe_int (pe_cal cDepth hg hr (by rfl) (pa_cons (pe_ix ix_tup (pv 2) pe_int (fun _ _ => rfl)) pa_nil))) pa_nil)))))
    pss_nil)))
  (pss_one (ps_ret (pv 1))))), ?_⟩
  refine ⟨_, rfl, c, rfl, ⟨_, sq⟩, ?_⟩
  refine for_tup (xs := us) (fun i σ H' => ∃ y, σ = [some (.ref c), some (.int (deps (b.take i))), y] ∧ Same H H') ⟨none, rfl, Same.refl H⟩ (fun i σ H' _ h => ?_) ?_ ?_
  · obtain ⟨_, _, h⟩ := h
    exact (Kt.same h).sq sq
  · rintro i x σ H' hx ⟨y, rfl, e2⟩
    obtain ⟨t, ht, hT⟩ := r.get hx
    have hT := TrAt.kt (Kt.same e2) t x hT
    cases t with
    | op u as =>
      rw [TrAt] at hT
      obtain ⟨a, rfl, sq3⟩ := hT
      refine ⟨_, rfl, a, _, 0, .str u, rfl, rfl, sq3, at0, rfl, _, rfl, iteN (fun e => okB_op ok ht (V.str.inj e)) ?_⟩
      refine ⟨some (.ref a), ?_, e2⟩
      rw [deps_next ht, Tr.dep, if_neg (by have := deps_nn (b.take i); omega)]
      rfl
    | loop m b' =>
      rw [TrAt] at hT
      obtain ⟨a, d, ws, rfl, sq3, sq4, r2⟩ := hT
      obtain ⟨c0, c1, ok2⟩ := okB_loop ok ht
      refine ⟨_, rfl, a, _, 0, .str "loop", rfl, rfl, sq3, rfl, rfl, _, rfl, iteP rfl ?_⟩
      refine ⟨_, rfl, _, rfl, a, _, 2, .ref d, rfl, rfl, sq3, rfl, _, b', rfl, ⟨d, ws, rfl, sq4, r2⟩, ok2, fun H2 sm => ?_⟩
      refine ⟨1, _, rfl, rfl, _, _, rfl, some (.ref a), ?_, e2.trans sm⟩
      rw [deps_next ht, Tr.dep]
      rfl
  · rintro σ H' ⟨y, rfl, e2⟩
    rw [r.length, take_all]
    exact ⟨_, rfl, q H' e2⟩
theorem ok_depth (M : Bl mg) (F : At K mg "depth" sDepth ["program"]) : ∀ n, Has P w K mg base n "depth" ["program"] (spTI K (okB n) deps)
  | 0 => Has.none F fun vs H Q E ⟨_, _, _, _, h, _⟩ => h
  | n + 1 => ok_depth1 M F (ok_depth M F n)
end
end K32
set_option Elab.async false
set_option linter.all false
set_option maxRecDepth 100000
set_option pp.maxSteps 500
set_option pp.deepTerms.threshold 8
set_option pp.deepTerms false
namespace K32
open PySem PySem.Spec PyProof.Rows L2 Lj
section
variable {P : Program} {w : World} {K : PySem.W.Frag} {mg : Str → Option Value} {base : Heap}
/-! ### a program without its writes -/
def spSil (K : PySem.W.Frag) (ok : List Tr → Prop) : Sp := fun vs H Q _ => ∃ (v : V) (b : List Tr), vs = [v] ∧ BodyAt K H b v ∧ ok b ∧ ∀ H' v', Same H H' → BodyAt K H' (sils b) v' → Q v' H'
theorem ok_silent1 (M : Bl mg) (F : At K mg "silent" sSilent ["program"]) {n k : Nat} (h : Has P w K mg base k "silent" ["program"] (spSil K (okB n))) : Has P w K mg base (k + 1) "silent" ["program"] (spSil K (okB (n + 1))) := by
  obtain ⟨_, _, cSilent⟩ := h
  refine Has.by F scSilent (fun vs H Q E h => ?_) (fun f cdv A out s H vs Q E hg hr h => ?_)
  · obtain ⟨v, t, rfl, _⟩ := h
    rfl
  obtain ⟨v, b, rfl, ⟨c, us, rfl, sq, r⟩, ok, q⟩ := h
  refine ⟨_, (pss_cons (ps_set (i := 1) scSilent.nd rfl (.inl rfl) (pe_lst pa_nil))
  (pss_cons (ps_for PassesOwn.never rfl (pi_tup (pv 0)) (pg_name (i := 2) scSilent.nd rfl (.inl rfl))
    (pss_one (ps_if (pt_cmpR op_eq (pe_ix ix_tup (pv 2) pe_int (fun _ _ => rfl)) pe_str (nomark _))
    (pss_one (ps_expr (pe_bm PySem.F.plainAttrs_list PySem.F.slot_list_append PySem.F.type_list_append mt_append (pv 1) (pa_cons (pe_tup (pa_cons pe_str (pa_cons (pe_ix ix_tup (pv 2) pe_int (fun _ _ => rfl)) (pa_cons (pe_cal cSilent hg hr (by rfl) (pa_cons (pe_ix ix_tup (pv 2) pe_int (fun _ _ => rfl)) pa_nil)) pa_nil)))) pa_nil))))
    (pss_one (ps_if (pt_cmpR op_ne (pe_ix ix_tup (pv 2) pe_int (fun _ _ => rfl)) pe_str (nomark _))
    (pss_one (ps_expr (pe_bm PySem.F.plainAttrs_list PySem.F.slot_list_append PySem.F.type_list_append mt_append (pv 1) (pa_cons (pv 2) pa_nil))))
    pss_nil)))))
  (pss_one (ps_ret (pe_callTy call_tuple_of (by rfl) M.tuple_ (by decide +kernel) (pa_cons (pv 1) pa_nil)))))), ?_⟩
  have xl := r.length
  have bl : b.length ≤ 1000 := ok.2
  refine ⟨Nat.zero_le _, fun D nD => ?_⟩
  have s1 := same_new (H := H) (o := .lst []) nD
  have hD := upd_same (H := H) (a := D) (o := .lst [])
  generalize upd H D (.lst []) = H1 at s1 hD ⊢
  refine ⟨_, rfl, c, rfl, ⟨_, (Kt.same s1).sq sq⟩, ?_⟩
  refine for_tup (xs := us) (fun i σ H' => ∃ y ws, σ = [some (.ref c), some (.ref D), y] ∧ Same H H' ∧ H' D = some (.lst ws) ∧ TrsAt K H' (sils (b.take i)) ws) ⟨_, [], rfl, s1, hD, by rw [List.take_zero, sils]; exact TrsAt.nil⟩ (fun i σ H' _ ⟨_, _, _, h, _⟩ => (Kt.same h).sq sq) ?_ ?_
  · rintro i x σ H2 hx ⟨y, ws, rfl, s2, hD2, tr⟩
    obtain ⟨t, ht, hT⟩ := r.get hx
    have hT := TrAt.kt (Kt.same s2) t x hT
    have nx : sils (b.take (i + 1)) = sils (b.take i) ++ t.sil := by
      rw [List.take_add_one, ht, sils_app]
      show _ ++ sils [t] = _
      rw [sils_one]
    have wl : ws.length ≤ i := by
      have h1 := tr.length
      have h2 := sil_len (b.take i)
      rw [List.length_take] at h2
      omega
    have il : i < us.length := (List.getElem?_eq_some_iff.mp hx).1
    cases t with
    | op u as =>
      have hT0 := hT
      rw [TrAt] at hT
      obtain ⟨a, rfl, sq3⟩ := hT
      refine ⟨_, rfl, a, _, 0, .str u, rfl, rfl, sq3, at0, rfl, _, rfl, iteN (fun e => okB_op ok ht (V.str.inj e)) ?_⟩
      refine ⟨_, rfl, a, _, 0, .str u, rfl, rfl, sq3, at0, rfl, _, rfl, ?_⟩
      by_cases e : u = "write"
      · refine ifNN (congrArg V.str e) ?_
        exact ⟨_, ws, rfl, s2, hD2, by rw [nx, Tr.sil, if_pos e, List.append_nil]; exact tr⟩
      · refine iteNN (fun e' => e (V.str.inj e')) ?_
        refine ⟨_, rfl, .inl ⟨rfl, _, SqL.of hD2⟩, _, rfl, D, ws, _, rfl, rfl, hD2, by rw [sizeLine_eq]; omega, ?_⟩
        have kt : Kt H2 (upd H2 D (.lst (ws ++ [V.ref a]))) := Kt.but But.upd hD2
        refine ⟨_, _, rfl, same_upd s2 nD, upd_same, ?_⟩
        rw [nx, Tr.sil, if_neg e]
        exact (TrsAt.kt kt _ _ tr).append (TrsAt.one (TrAt.kt kt _ _ hT0))
    | loop m b' =>
      rw [TrAt] at hT
      obtain ⟨a, d, ws2, rfl, sq3, sq4, r2⟩ := hT
      obtain ⟨c0, c1, ok2⟩ := okB_loop ok ht
      refine ⟨_, rfl, a, _, 0, .str "loop", rfl, rfl, sq3, rfl, rfl, _, rfl, iteP rfl ?_⟩
      refine ⟨_, rfl, .inl ⟨rfl, _, SqL.of hD2⟩, ?_⟩
      refine ⟨_, rfl, a, _, 1, .int m, rfl, rfl, sq3, rfl, _, rfl, a, _, 2, .ref d, rfl, rfl, sq3, rfl, .ref d, b', rfl, ⟨d, ws2, rfl, sq4, r2⟩, ok2, fun H3 v3 s3 hv3 => ?_⟩
      obtain ⟨d3, us3, rfl, sq5, r3⟩ := hv3
      refine ⟨(by show 3 ≤ sizeLine; decide), fun T nT => ?_⟩
      have s4 := same_new (H := H3) (o := .tup [V.str "loop", V.int m, V.ref d3]) nT
      have hT4 := upd_same (H := H3) (a := T) (o := .tup [V.str "loop", V.int m, V.ref d3])
      generalize upd H3 T (.tup [V.str "loop", V.int m, V.ref d3]) = H4 at s4 hT4 ⊢
      have s24 := s3.trans s4
      have hD4 := s24 _ _ hD2
      refine ⟨D, ws, _, rfl, rfl, hD4, by rw [sizeLine_eq]; omega, ?_⟩
      have kt : Kt H4 (upd H4 D (.lst (ws ++ [V.ref T]))) := Kt.but But.upd hD4
      refine ⟨_, _, rfl, same_upd (s2.trans s24) nD, upd_same, ?_⟩
      rw [nx, Tr.sil]
      refine (TrsAt.kt kt _ _ (TrsAt.kt (Kt.same s24) _ _ tr)).append (TrsAt.one ?_)
      rw [TrAt]
      exact ⟨T, d3, us3, rfl, kt.sq (SqT.of hT4), kt.sq ((Kt.same s4).sq sq5), TrsAt.kt kt _ _ (TrsAt.kt (Kt.same s4) _ _ r3)⟩
  · rintro σ H2 ⟨y, ws, rfl, s2, hD2, tr⟩
    rw [xl, take_all] at tr
    refine ⟨_, rfl, D, ws, rfl, .inl ⟨SqL.of hD2, fun T nT => ?_⟩⟩
    have s3 := same_new (H := H2) (o := .tup ws) nT
    exact q _ _ (s2.trans s3) ⟨T, ws, rfl, SqT.of upd_same, TrsAt.kt (Kt.same s3) _ _ tr⟩
theorem ok_silent (M : Bl mg) (F : At K mg "silent" sSilent ["program"]) : ∀ n, Has P w K mg base n "silent" ["program"] (spSil K (okB n))
  | 0 => Has.none F fun vs H Q E ⟨_, _, _, _, h, _⟩ => h
  | n + 1 => ok_silent1 M F (ok_silent M F n)
end
end K32
set_option Elab.async false
set_option linter.all false
set_option maxRecDepth 100000
set_option pp.maxSteps 500
set_option pp.deepTerms.threshold 8
set_option pp.deepTerms false
namespace K32
open PySem PySem.Spec PyProof.Rows L2 Lj
section
variable {P : Program} {w : World} {K : PySem.W.Frag} {mg : Str → Option Value} {base : Heap}
/-! ### rows, a list of lists -/
def RLat (H : Hp) (r : Addr) (R : List (List Int)) : Prop := ∃ as : List Addr, H r = some (.lst (as.map V.ref)) ∧ Paired (fun a ns => H a = some (.lst (ns.map V.int))) as R
theorem RLat.same {H H' : Hp} {r : Addr} {R : List (List Int)} (s : Same H H') (h : RLat H r R) : RLat H' r R := by
  obtain ⟨as, e, q⟩ := h
  exact ⟨as, s _ _ e, L2.Paired.mapP q fun a ns z => s _ _ z⟩
theorem RLat.rws {H : Hp} {r : Addr} {R : List (List Int)} (h : RLat H r R) : RwsAt K H (.ref r) R := by
  obtain ⟨as, e, q⟩ := h
  exact ⟨r, as, rfl, .inl (SqL.of e), L2.Paired.mapP q fun a ns z => .inl (SqL.of z)⟩
structure RGd (p : Int) (n : Nat) (R : List (List Int)) : Prop where
  rw : ∀ ns ∈ R, ns.length = n + 1 ∧ Fe p ns
  few : R.length ≤ n + 1
  one : ∃ ns ∈ R, ¬ p ∣ row ns 0
def spSpn (K : PySem.W.Frag) : Sp := fun vs H Q _ => ∃ (p : Int) (n : Nat) (r : Addr) (R : List (List Int)), vs = [.int p, .ref r] ∧ RLat H r R ∧ (∀ ns ∈ R, ns.length = n + 1 ∧ Fe p ns) ∧ (∃ ns ∈ R, ¬ p ∣ row ns 0) ∧ n ≤ 80 ∧ Prm p ∧
  ∀ H' r' R', Same H H' → H r' = none → RLat H' r' R' → RGd p n R' → (∀ x, InSp p (n + 1) (R'.map row) x ↔ InSp p (n + 1) (R.map row) x) → Q (.ref r') H'
theorem ok_spanning (M : Bl mg) (F : At K mg "spanning" sSpanning ["p", "rows"]) {k : Nat} (h : Has P w K mg base k "echelon" ["p", "rows"] (spEch K)) : Has P w K mg base (k + 1) "spanning" ["p", "rows"] (spSpn K) := by
  obtain ⟨_, _, cEchelon⟩ := h
  refine Has.by F scSpanning (fun vs H Q E h => ?_) (fun f cdv A out s H vs Q E hg hr h => ?_)
  · obtain ⟨_, _, _, _, rfl, _⟩ := h
    rfl
  obtain ⟨p, n, r, R, rfl, hR, rw', one, n8, pr, q⟩ := h
  refine ⟨_, (pss_one (ps_ret (pe_listVals rfl (by rfl) M.list_ (pe_cal cEchelon hg hr (by rfl) (pa_cons (pv 0) (pa_cons (pv 1) pa_nil)))))), ?_⟩
  refine ⟨_, rfl, _, rfl, p, .ref r, R, n + 1, rfl, hR.rws, rw', by omega, pr.hi, pr.inv, pr.cop, fun H1 d E s1 nd hd ok _ _ _ El Eo => ?_⟩
  refine ⟨d, _, rfl, hd, fun l nl => ?_⟩
  have s2 := same_new (H := H1) (o := .lst ((kvE E).map fun kv => kv.2)) nl
  have hl := upd_same (H := H1) (a := l) (o := .lst ((kvE E).map fun kv => kv.2))
  generalize upd H1 l (.lst ((kvE E).map fun kv => kv.2)) = H2 at s2 hl ⊢
  have el : (kvE E).map (fun kv => kv.2) = (E.map (·.b)).map V.ref := by
    unfold kvE
    rw [List.map_map, List.map_map]
    rfl
  rw [el] at hl
  have pq : ∀ E' : List Ent, (∀ e ∈ E', EntOk p (n + 1) H1 e) → Paired (fun a ns => H2 a = some (.lst (ns.map V.int))) (E'.map (·.b)) (E'.map (·.es)) := fun E' => by
    induction E' with
    | nil => exact fun _ => .nil
    | cons e E' ih => exact fun h => .cons (s2 _ _ (h e List.mem_cons_self).1) (ih fun x mx => h x (List.mem_cons_of_mem _ mx))
  have er : (E.map (·.es)).map row = eR E := by
    unfold eR
    rw [List.map_map]
    rfl
  refine q H2 l (E.map (·.es)) (s1.trans s2) (s1.free nl) ⟨_, hl, pq E ok⟩ ⟨fun ns mn => ?_, by rw [List.length_map]; exact El, ?_⟩ (fun x => by rw [er]; exact Eo.sp x)
  · obtain ⟨e, me, rfl⟩ := List.mem_map.mp mn
    exact ⟨(ok e me).2.1, (ok e me).2.2.1⟩
  · refine Classical.byContradiction fun no => ?_
    obtain ⟨ns, mn, hn⟩ := one
    have hin : InSp p (n + 1) (eR E) (row ns) := (Eo.sp _).mpr (InSp.mem (List.mem_map.mpr ⟨ns, mn, rfl⟩))
    obtain ⟨ws, hw⟩ := hin
    have h0 := hw 0 (by omega)
    have z : ∀ (X : List Lj.Row) (ws : List Int), (∀ x ∈ X, p ∣ x 0) → p ∣ comb ws X 0 := fun X => by
      induction X with
      | nil => intro ws _; rw [comb_nil]; exact Int.dvd_zero _
      | cons x X ih =>
        intro ws hx
        cases ws with
        | nil => rw [comb_nilL]; exact Int.dvd_zero _
        | cons w ws =>
          rw [comb]
          exact Int.dvd_add (Int.dvd_mul_of_dvd_right (hx x List.mem_cons_self)) (ih ws fun y my => hx y (List.mem_cons_of_mem _ my))
    have hc := z (eR E) ws fun x mx => by
      obtain ⟨e, me, rfl⟩ := List.mem_map.mp mx
      exact Classical.byContradiction fun c => no ⟨e.es, List.mem_map.mpr ⟨e, me, rfl⟩, c⟩
    exact hn (by
      obtain ⟨a, ha⟩ := h0
      obtain ⟨b, hb⟩ := hc
      exact ⟨a + b, by rw [Int.mul_add]; omega⟩)
end
end K32
set_option Elab.async false
set_option linter.all false
set_option maxRecDepth 100000
set_option pp.maxSteps 500
set_option pp.deepTerms.threshold 8
set_option pp.deepTerms false
namespace K32
open PySem PySem.Spec PyProof.Rows L2 Lj
def rsSc : Scope := { kind := .function, names := [(".0", .local), ("place", .cell), ("rows", .cell)], isGenerator := false, isCoroutine := false }
section
variable {P : Program} {w : World} {K : PySem.W.Frag} {mg : Str → Option Value} {base : Heap}
/-! ### a step undone -/
def spInvd (K : PySem.W.Frag) : Sp := fun vs H Q _ => ∃ (p n : Int) (z : Str) (as : List Int) (v : V), vs = [.int p, v] ∧ TrAt K H (.op z as) v ∧ GoodOp p n z as ∧ ovw z as = none ∧ Prm p ∧ ∀ H' v', Same H H' → Q v' H'
theorem ok_inverted (M : Bl mg) (F : At K mg "inverted" sInverted ["p", "instruction"]) {k : Nat} (h : Has P w K mg base k "inverse" ["p", "a"] spInv) : Has P w K mg base (k + 1) "inverted" ["p", "instruction"] (spInvd K) := by
  obtain ⟨_, _, cInverse⟩ := h
  refine Has.by F scInverted (fun vs H Q E h => ?_) (fun f cdv A out s H vs Q E hg hr h => ?_)
  · obtain ⟨_, _, _, _, _, rfl, _⟩ := h
    rfl
  obtain ⟨p, n, z, as, v, rfl, hT, go, no, pr, q⟩ := h
  rw [TrAt] at hT
  obtain ⟨a, rfl, sa⟩ := hT
  refine ⟨_, (pss_cons (ps_set (i := 2) scInverted.nd rfl (.inl rfl) (pe_ix ix_tup (pv 1) pe_int (fun _ _ => rfl)))
  (pss_cons (ps_if (pt_cmpR op_eq (pv 2) pe_str (nomark _))
    (pss_one (ps_ret (pe_tup (pa_cons pe_str (pa_cons (pe_ix ix_tup (pv 1) pe_int (fun _ _ => rfl)) (pa_cons (pe_ix ix_tup (pv 1) pe_int (fun _ _ => rfl)) (pa_cons (pe_op op_sub (pv 0) (pe_ix ix_tup (pv 1) pe_int (fun _ _ => rfl))) pa_nil)))))))
    pss_nil)
  (pss_cons (ps_if (pt_cmpR op_eq (pv 2) pe_str (nomark _))
    (pss_one (ps_ret (pe_tup (pa_cons pe_str (pa_cons (pe_ix ix_tup (pv 1) pe_int (fun _ _ => rfl)) (pa_cons (pe_cal cInverse hg hr (by rfl) (pa_cons (pv 0) (pa_cons (pe_ix ix_tup (pv 1) pe_int (fun _ _ => rfl)) pa_nil))) pa_nil))))))
    pss_nil)
  (pss_one (ps_ret (pv 1)))))), ?_⟩
  refine ⟨_, rfl, a, _, 0, .str z, rfl, rfl, sa, at0, ?_⟩
  refine ⟨_, rfl, rfl, _, rfl, ?_⟩
  rcases go with ⟨rfl | rfl, x, c, rfl, x0, x1, c0, c1⟩ | ⟨rfl | rfl, x, rfl, x0, x1⟩ | ⟨rfl | rfl, x, y, rfl, x0, x1, y0, y1, xy⟩ | ⟨rfl, x, y, c, rfl, x0, x1, y0, y1, xy, c0, c1⟩
  · cases no
  · have cn : c ≠ 0 := fun e => by
      subst e
      cases no
    refine iteN (by decide) ?_
    refine ⟨_, rfl, rfl, _, rfl, iteP rfl ?_⟩
    refine ⟨_, rfl, a, _, 1, .int x, rfl, rfl, sa, rfl, _, rfl, _, rfl, a, _, 2, .int c, rfl, rfl, sa, rfl, p, c, rfl, by have := pr.lo; omega, pr.hi, by omega, c1, pr.cop c (by omega) c1, fun r _ _ _ => ⟨(by show 3 ≤ sizeLine; decide), fun T nT => q _ _ (same_new nT)⟩⟩
  · cases no
  · refine iteN (by decide) ?_
    refine ⟨_, rfl, rfl, _, rfl, iteN (by decide) ?_⟩
    exact ⟨_, rfl, q H _ (Same.refl H)⟩
  · cases no
  · refine iteN (by decide) ?_
    refine ⟨_, rfl, rfl, _, rfl, iteN (by decide) ?_⟩
    exact ⟨_, rfl, q H _ (Same.refl H)⟩
  · refine iteP rfl ?_
    refine ⟨_, rfl, a, _, 1, .int x, rfl, rfl, sa, rfl, _, rfl, a, _, 2, .int y, rfl, rfl, sa, rfl, _, rfl, _, rfl, a, _, 3, .int c, rfl, rfl, sa, rfl, _, _, rfl, rfl, (by show 4 ≤ sizeLine; decide), fun T nT => q _ _ (same_new nT)⟩
theorem paired_snocB {α β : Type} {F : α → β → Prop} : ∀ {as : List α} {B : List β} {a : α} {b : β}, Paired F as B → F a b → Paired F (as ++ [a]) (B ++ [b])
  | _, _, _, _, .nil, h => .cons h .nil
  | _, _, _, _, .cons h t, f => .cons h (paired_snocB t f)
theorem paired_setB {α β : Type} {F : α → β → Prop} : ∀ {as : List α} {B : List β} {i : Nat} {a : α} {b : β}, Paired F as B → F a b → Paired F (as.set i a) (B.set i b)
  | _, _, i, _, _, .nil, h => .nil
  | _, _, 0, _, _, .cons h t, f => .cons f t
  | _, _, i + 1, _, _, .cons h t, f => .cons h (paired_setB (i := i) t f)
/-- a slice of a tuple -/
theorem any_cutB {K : PySem.W.Frag} {H : Hp} {a : Addr} {xs ys : List V} {lo hi : Option Int} {Q : V → Hp → Prop} (sq : SqT K H a xs) (e : cutV xs lo hi = ys) (q : ∀ a' H', Same H H' → SqT K H' a' ys → Q (.ref a') H') : rSlA K (.ref a) lo hi H Q := by
  refine ⟨a, _, rfl, sq, fun h => ?_, fun _ p np => ?_⟩
  · have cw := cut_whole _ _ _ h
    rw [e] at cw
    exact q _ H (Same.refl H) (by rw [cw]; exact sq)
  · rw [e]
    exact q _ _ (same_new np) (SqT.of upd_same)
/-- the columns of rows -/
def colsR (N : Nat) (R : List (List Int)) : List (List Int) := (List.range N).map fun j => R.map fun r => row r j
def spRsd (K : PySem.W.Frag) : Sp := fun vs H Q _ => ∃ (p : Int) (n x : Nat) (r : Addr) (R : List (List Int)), vs = [.int p, .ref r, .int (x : Int)] ∧ RLat H r R ∧ RGd p n R ∧ x < n ∧ n ≤ 80 ∧ Prm p ∧
  ∀ H' a xs, Same H H' → SqT K H' a xs → xs.length ≤ 100 → Q (.ref a) H'
set_option maxHeartbeats 4000000 in
theorem ok_restored (M : Bl mg) (F : At K mg "restored" sRestored ["p", "rows", "x"]) {k : Nat} (h : Has P w K mg base k "weights" ["p", "rows", "row"] (spWts K)) : Has P w K mg base (k + 1) "restored" ["p", "rows", "x"] (spRsd K) := by
  obtain ⟨_, _, cWeights⟩ := h
  refine Has.by F scRestored (fun vs H Q E h => ?_) (fun f cdv A out s H vs Q E hg hr h => ?_)
  · obtain ⟨_, _, _, _, _, rfl, _⟩ := h
    rfl
  obtain ⟨p, n, x, r, R, rfl, ⟨as, hr0, pq⟩, gd, xn, n8, pr, q⟩ := h
  refine ⟨_, (pss_cons (ps_setLc (i := 3) (own := [("place", 7)]) (g := gName 7) (by rfl) scRestored.nd rfl rfl (sw_true rfl rfl rfl (by decide +kernel)) (pi_range1 (by rfl) M.range_ (pa_cons (pe_callB call_len_seq (by rfl) M.len_ (by decide +kernel) (pa_cons (pe_ix ix_list (pv 1) pe_int (fun _ _ => rfl)) pa_nil)) pa_nil)) (blkOk_by (own := [("place", 7)]) (N := ["p", "rows", "x", "columns", "wanted", "found", "adds", "place", "y", "weight", "row"]) (sc := defScope sRestored) (by decide +kernel)) (fun _ _ _ _ _ => (pg_name (i := 7) scRestored.nd rfl (.inr rfl))) (fun _ _ _ _ _ => pts_nil) (fun _ _ _ _ _ => (pe_lc (own := [("row", 10)]) (g := gName 10) (by rfl) scRestored.nd (pi_listK (K := K) rfl (pv 1)) (blkOk_by (own := [("row", 10)]) (N := ["p", "rows", "x", "columns", "wanted", "found", "adds", "place", "y", "weight", "row"]) (sc := rsSc) (by decide +kernel)) (fun _ _ _ _ _ => (pg_name (i := 10) scRestored.nd rfl (.inl rfl))) (fun _ _ _ _ _ => pts_nil) (fun _ _ _ _ _ => (pe_ix (ix_listK (K := K) rfl) (pv 10) (pv 7) (fun _ _ => rfl))))))
  (pss_cons (ps_set (i := 4) scRestored.nd rfl (.inl rfl) (pe_ix ix_list (pv 3) (pe_op op_add (pv 2) pe_int) (fun _ _ => rfl)))
  (pss_cons (ps_asg (pe_op op_rep (pe_lst (pa_cons pe_int pa_nil)) (pe_callB call_len_seq (by rfl) M.len_ (by decide +kernel) (pa_cons (pv 1) pa_nil))) (pg_sub (pv 3) (pe_op op_add (pv 2) pe_int) set_list))
  (pss_cons (ps_set (i := 5) scRestored.nd rfl (.inl rfl) (pe_cal cWeights hg hr (by rfl) (pa_cons (pv 0) (pa_cons (pv 3) (pa_cons (pv 4) pa_nil)))))
  (pss_cons (ps_if (pt_cmpR op_isN (pv 5) pe_non (nomark _))
    (pss_one (ps_ret (pe_tup (pa_cons (pe_tup (pa_cons pe_str (pa_cons (pv 2) pa_nil))) pa_nil))))
    pss_nil)
  (pss_cons (ps_setLc (i := 6) (own := [("y", 8), ("weight", 9)]) (g := gTup K 2 (gCons (gName 8) (gCons (gName 9) gNil))) (by rfl) scRestored.nd rfl rfl (sw_true rfl rfl rfl (by decide +kernel)) (pi_enumT (by rfl) M.enumerate_ (pa_cons (pe_slice sl_tupA (pv 5) (po_some pe_int) po_none) pa_nil)) (blkOk_by (own := [("y", 8), ("weight", 9)]) (N := ["p", "rows", "x", "columns", "wanted", "found", "adds", "place", "y", "weight", "row"]) (sc := defScope sRestored) (by decide +kernel)) (fun _ _ _ _ _ => (pg_tup rfl (pgs_cons (pg_name (i := 8) scRestored.nd rfl (.inl rfl)) (pgs_cons (pg_name (i := 9) scRestored.nd rfl (.inl rfl)) pgs_nil)))) (fun _ _ _ _ _ => (pts_one (pt_cmpR op_ne (pv 9) pe_int (nomark _)))) (fun _ _ _ _ _ => (pe_tup (pa_cons pe_str (pa_cons (pv 2) (pa_cons (pv 8) (pa_cons (pv 9) pa_nil)))))))
  (pss_one (ps_ret (pe_tup (pa_cons (pe_tup (pa_cons pe_str (pa_cons (pv 2) (pa_cons (pe_ix ix_tup (pv 5) pe_int (fun _ _ => rfl)) pa_nil)))) (StX.pa_star (pv 6) pa_nil))))))))))), ?_⟩
  obtain ⟨ns0, m0, c0⟩ := gd.one
  have Rne : R ≠ [] := fun e => by rw [e] at m0; cases m0
  obtain ⟨r0, R1, rfl⟩ : ∃ r0 R1, R = r0 :: R1 := by
    cases R with
    | nil => exact absurd rfl Rne
    | cons a l => exact ⟨a, l, rfl⟩
  obtain ⟨a0, as1, rfl, ha0, pq1⟩ : ∃ a0 as1, as = a0 :: as1 ∧ H a0 = some (.lst (r0.map V.int)) ∧ Paired (fun a ns => H a = some (.lst (ns.map V.int))) as1 R1 := by
    cases pq with
    | cons h t => exact ⟨_, _, rfl, h, t⟩
  have pq : Paired (fun a ns => H a = some (.lst (ns.map V.int))) (a0 :: as1) (r0 :: R1) := .cons ha0 pq1
  have r0l := (gd.rw r0 List.mem_cons_self).1
  have al : (a0 :: as1).length = (r0 :: R1).length := Paired.length pq
  have few := gd.few
  generalize eAs : a0 :: as1 = as at hr0 pq al
  generalize eR : r0 :: R1 = R at gd few pq al
  refine ⟨_, rfl, r, _, 0, .ref a0, rfl, rfl, SqL.of hr0, by rw [← eAs]; exact at0, a0, _, rfl, .inl (SqL.of ha0), ?_⟩
  rw [List.length_map, r0l]
  refine ⟨_, rfl, by omega, by omega, fun D nD => ?_⟩
  refine lc_range (lo := 0) (n := n + 1) (fun j H' => ∃ cs : List Addr, H' D = some (.lst (cs.map V.ref)) ∧ Paired (fun a ns => (upd H D (.lst [])) a = none ∧ H' a = some (.lst (ns.map V.int))) cs (colsR j R) ∧ Same H H') ⟨[], upd_same, .nil, same_new nD⟩ ?_ ?_
  · rintro j H1 hj ⟨cs, hD1, pc, s1⟩
    have cl : cs.length = j := by
      have := Paired.length pc
      unfold colsR at this
      rwa [List.length_map, List.length_range] at this
    refine ⟨rfl, _, rfl, r, rfl, ⟨_, SqL.of (s1 _ _ hr0)⟩, fun D2 nD2 => ?_⟩
    refine lc_list (xs := as.map V.ref) (fun i H' => H' D2 = some (.lst (((R.take i).map fun r => row r j).map V.int)) ∧ Same H1 H') ⟨upd_same, same_new nD2⟩ (fun i H' _ h => SqL.of (h.2 _ _ (s1 _ _ hr0))) ?_ ?_
    · rintro i y H2 hy ⟨e1, s2⟩
      rw [List.getElem?_map] at hy
      obtain ⟨a, ea, rfl⟩ := Option.map_eq_some_iff.mp hy
      obtain ⟨ns, en, hn⟩ := L2.paired_nth pq ea
      have ha := s2 _ _ (s1 _ _ hn)
      have nl := (gd.rw ns (List.mem_of_getElem? en)).1
      refine ⟨rfl, _, rfl, _, rfl, a, _, 0 + (j : Nat), .int (row ns j), rfl, rfl, SqL.of ha, ?_, ?_⟩
      · rw [Int.zero_add]
        refine atI_nat ?_
        rw [List.getElem?_map, List.getElem?_eq_getElem (by omega : j < ns.length)]
        show some (V.int ns[j]) = _
        rw [row_get (List.getElem?_eq_getElem (by omega : j < ns.length))]
      refine ⟨_, e1, by rw [List.length_map, List.length_map, List.length_take, sizeLine_eq]; omega, ?_, same_upd s2 nD2⟩
      rw [upd_same, List.take_add_one, en, List.map_append, List.map_append]
      rfl
    rintro H2 ⟨e1, s2⟩
    rw [List.length_map, al, List.take_length] at e1
    have nDD : D ≠ D2 := ne_of_none hD1 nD2
    have hD2 := s2 _ _ hD1
    refine ⟨_, hD2, by rw [List.length_map, sizeLine_eq]; omega, cs ++ [D2], by rw [upd_same, List.map_append]; rfl, ?_, same_upd (s1.trans s2) nD⟩
    have e : colsR (j + 1) R = colsR j R ++ [R.map fun r => row r j] := by
      unfold colsR
      rw [List.range_succ, List.map_append]
      rfl
    rw [e]
    have fr : (upd H D (.lst [])) D2 = none := (upd_ne nDD.symm).trans (s1.free nD2)
    refine paired_snocB (L2.Paired.mapP pc fun a ns ⟨h1, h2⟩ => ⟨h1, ?_⟩) ⟨fr, (upd_ne nDD.symm).trans e1⟩
    have na : a ≠ D := fun e => by
      rw [e, upd_same] at h1
      cases h1
    exact (upd_ne na).trans (s2 _ _ h2)
  · rintro H1 ⟨cs, hD1, pc, s1⟩
    have cl : cs.length = n + 1 := by
      have := Paired.length pc
      unfold colsR at this
      rwa [List.length_map, List.length_range] at this
    obtain ⟨aw, haw⟩ : ∃ aw, cs[x + 1]? = some aw := ⟨cs[x + 1], List.getElem?_eq_getElem (by omega)⟩
    obtain ⟨col, hcol, naw, hw⟩ := L2.paired_nth pc haw
    have ecol : col = R.map fun r => row r (x + 1) := by
      unfold colsR at hcol
      rw [List.getElem?_map, List.getElem?_range (by omega)] at hcol
      exact (Option.some.inj hcol).symm
    have mR : R.length ≤ 81 := by omega
    refine ⟨_, rfl, _, rfl, _, _, rfl, rfl, D, _, (x : Int) + 1, .ref aw, rfl, rfl, SqL.of hD1, ?_, ?_⟩
    · rw [show (x : Int) + 1 = ((x + 1 : Nat) : Int) by omega]
      refine atI_nat ?_
      rw [List.getElem?_map, haw]
      rfl
    refine ⟨(by show 1 ≤ sizeLine; decide), fun l0 nl0 => ?_⟩
    have s2 := same_new (H := H1) (o := .lst [V.int 0]) nl0
    have hl0 := upd_same (H := H1) (a := l0) (o := .lst [V.int 0])
    generalize upd H1 l0 (.lst [V.int 0]) = H2 at s2 hl0 ⊢
    refine ⟨_, rfl, r, _, rfl, .inl (SqL.of (s2 _ _ (s1 _ _ hr0))), ?_⟩
    rw [List.length_map, al]
    refine ⟨l0, _, _, rfl, rfl, hl0, by omega, by omega, by rw [Int.toNat_natCast, sizeLine_eq]; show 1 * R.length ≤ _; omega, fun lz nlz => ?_⟩
    have ez : (List.replicate ((R.length : Nat) : Int).toNat [V.int 0]).flatten = (List.replicate R.length (0 : Int)).map V.int := by
      rw [Int.toNat_natCast, List.flatten_replicate_singleton, List.map_replicate]
    rw [ez]
    have s3 := same_new (H := H2) (o := .lst ((List.replicate R.length (0 : Int)).map V.int)) nlz
    have hlz := upd_same (H := H2) (a := lz) (o := .lst ((List.replicate R.length (0 : Int)).map V.int))
    generalize upd H2 lz (.lst ((List.replicate R.length (0 : Int)).map V.int)) = H3 at s3 hlz ⊢
    have s13 := s2.trans s3
    have hD3 := s13 _ _ hD1
    have nDz : lz ≠ D := (ne_of_none (s2 _ _ hD1) nlz).symm
    refine ⟨_, rfl, _, rfl, _, _, rfl, rfl, D, _, (x : Int) + 1, x + 1, rfl, rfl, hD3, ?_, ?_⟩
    · rw [ix_sv (by omega) (by rw [List.length_map]; omega)]
      congr 1
    have s4 : Same H (upd H3 D (.lst ((cs.map V.ref).set (x + 1) (.ref lz)))) := same_upd (s1.trans s13) nD
    have hD4 := upd_same (H := H3) (a := D) (o := .lst ((cs.map V.ref).set (x + 1) (.ref lz)))
    have pc4 : Paired (fun a ns => (upd H3 D (.lst ((cs.map V.ref).set (x + 1) (.ref lz)))) a = some (.lst (ns.map V.int))) (cs.set (x + 1) lz) ((colsR (n + 1) R).set (x + 1) (List.replicate R.length 0)) := by
      refine paired_setB (L2.Paired.mapP pc fun a ns ⟨h1, h2⟩ => ?_) ((upd_ne nDz).trans hlz)
      have na : a ≠ D := fun e => by
        rw [e, upd_same] at h1
        cases h1
      exact (upd_ne na).trans (s13 _ _ h2)
    have hw4 : (upd H3 D (.lst ((cs.map V.ref).set (x + 1) (.ref lz)))) aw = some (.lst (col.map V.int)) := by
      have na : aw ≠ D := fun e => by
        rw [e, upd_same] at naw
        cases naw
      exact (upd_ne na).trans (s13 _ _ hw)
    generalize upd H3 D (.lst ((cs.map V.ref).set (x + 1) (.ref lz))) = H4 at s4 hD4 pc4 hw4 ⊢
    have fe0 : ∀ j, j < n + 1 → ((R.map fun r => row r j).length = R.length ∧ Fe p (R.map fun r => row r j)) := fun j hj => by
      refine ⟨List.length_map _, fun a ma => ?_⟩
      obtain ⟨ns, mn, rfl⟩ := List.mem_map.mp ma
      obtain ⟨l1, l2⟩ := gd.rw ns mn
      refine l2 _ ?_
      have : ns[j]? = some ns[j] := List.getElem?_eq_getElem (by omega)
      rw [row_get this]
      exact List.getElem_mem _
    have rws : ∀ r ∈ (colsR (n + 1) R).set (x + 1) (List.replicate R.length 0), r.length = R.length ∧ Fe p r := fun r mr => by
      rcases List.mem_or_eq_of_mem_set mr with m | e
      · unfold colsR at m
        obtain ⟨j, mj, rfl⟩ := List.mem_map.mp m
        exact fe0 j (List.mem_range.mp mj)
      · rw [e]
        refine ⟨List.length_replicate, fun a ma => ?_⟩
        rw [List.eq_of_mem_replicate ma]
        have := pr.lo
        omega
    have c' := fe0 (x + 1) (by omega)
    rw [← ecol] at c'
    have cl2 : ((colsR (n + 1) R).set (x + 1) (List.replicate R.length 0)).length = n + 1 := by
      rw [List.length_set]
      unfold colsR
      rw [List.length_map, List.length_range]
    generalize (colsR (n + 1) R).set (x + 1) (List.replicate R.length 0) = C4 at pc4 rws cl2 ⊢
    refine ⟨_, rfl, _, rfl, _, rfl, p, .ref D, aw, C4, col, R.length, rfl, ⟨D, cs.set (x + 1) lz, rfl, by rw [hD4, List.map_set], L2.Paired.mapP pc4 fun a ns z => .inl (SqL.of z)⟩, .inl (SqL.of hw4), c'.1, c'.2, rws, by omega, by omega, pr.hi, pr.inv, pr.cop, fun _ H5 s5 => ?_, fun u hu H5 t s5 sq5 => ?_⟩
    · refine ⟨_, rfl, rfl, _, rfl, iteP rfl ?_⟩
      refine ⟨_, rfl, (by show 2 ≤ sizeLine; decide), fun T1 n1 => ⟨(by show 1 ≤ sizeLine; decide), fun T2 n2 => ?_⟩⟩
      exact q _ T2 _ ((s4.trans s5).trans ((same_new n1).trans (same_new n2))) (SqT.of upd_same) (by show 1 ≤ 100; decide)
    · refine ⟨_, rfl, rfl, _, rfl, iteN (fun e => nomatch e) ?_⟩
      have ul := hu.len
      rw [List.length_map, cl2] at ul
      obtain ⟨u0, us, rfl⟩ : ∃ u0 us, u = u0 :: us := by
        cases u with
        | nil => cases ul
        | cons a l => exact ⟨a, l, rfl⟩
      have usl : us.length = n := by
        rw [List.length_cons] at ul
        omega
      refine ⟨_, rfl, 1, rfl, ?_⟩
      dsimp only [tNoPart]
      refine any_cutB (ys := us.map V.int) sq5 (cut_tail _ _) fun a2 H6 s6 sq6 => ?_
      refine ⟨a2, _, rfl, sq6, fun D3 nD3 => ?_⟩
      refine lc_it (walk_enumT (K := K) (a := a2) (xs := us.map V.int)) (fun i H' => ∃ ws, H' D3 = some (.lst ws) ∧ ws.length ≤ i ∧ Same H6 H') ⟨[], upd_same, Nat.le_refl _, same_new nD3⟩ (fun i H' _ ⟨_, _, _, s⟩ => (Kt.same s).sq sq6) ?_ ?_
      · rintro i y H7 H8 hi ⟨ws, e1, wl, s7⟩ ⟨T, w1, v1, rfl, nT, rfl, hw, hv⟩
        cases hw
        have hv : (us.map V.int)[i]? = some v1 := hv
        rw [List.getElem?_map] at hv
        obtain ⟨c, hc, rfl⟩ := Option.map_eq_some_iff.mp hv
        have ic := (List.getElem?_eq_some_iff.mp hc).1
        have sT := same_new (o := .tup [V.int (i : Nat), V.int c]) nT
        refine ⟨T, _, rfl, SqT.of upd_same, rfl, _, _, rfl, _, _, rfl, rfl, ?_⟩
        generalize upd H7 T (.tup [V.int (i : Nat), V.int c]) = H8 at sT ⊢
        refine ⟨rfl, _, rfl, rfl, _, rfl, ?_⟩
        by_cases c0 : c = 0
        · refine ifNN (congrArg V.int c0) ?_
          exact ⟨ws, sT _ _ e1, by omega, s7.trans sT⟩
        · refine iteNN (fun e => c0 (V.int.inj e)) ?_
          refine ⟨_, rfl, _, rfl, _, rfl, (by show 4 ≤ sizeLine; decide), fun T2 n2 => ?_⟩
          have sT2 := same_new (o := .tup [V.str "add", V.int (x : Int), V.int (i : Nat), V.int c]) n2
          refine ⟨_, sT2 _ _ (sT _ _ e1), by rw [sizeLine_eq]; omega, _, upd_same, by rw [List.length_append]; show ws.length + 1 ≤ _; omega, same_upd (s7.trans (sT.trans sT2)) nD3⟩
      · rintro H7 ⟨ws, e1, wl, s7⟩
        rw [List.length_map, usl] at wl
        have sE := (s4.trans s5).trans (s6.trans s7)
        refine ⟨_, rfl, _, rfl, t, _, 0, .int u0, rfl, rfl, (Kt.same (s6.trans s7)).sq sq5, at0, (by show 3 ≤ sizeLine; decide), fun T1 n1 => ?_⟩
        have sT1 := same_new (o := .tup [V.str "set", V.int (x : Int), V.int u0]) n1
        refine ⟨_, rfl, D3, _, rfl, .inr (SqL.of (sT1 _ _ e1)), ?_⟩
        show (V.ref T1 :: (ws ++ [])).length ≤ sizeLine ∧ _
        rw [List.append_nil]
        refine ⟨by rw [List.length_cons, sizeLine_eq]; omega, fun T2 n2 => ?_⟩
        exact q _ T2 _ (sE.trans (sT1.trans (same_new n2))) (SqT.of upd_same) (by rw [List.length_cons]; omega)
end
end K32
set_option Elab.async false
set_option linter.all false
set_option maxRecDepth 100000
set_option pp.maxSteps 500
set_option pp.deepTerms.threshold 8
set_option pp.deepTerms false
namespace K32
open PySem PySem.Spec PyProof.Rows L2 Lj
section
variable {P : Program} {w : World} {K : PySem.W.Frag} {mg : Str → Option Value} {base : Heap}
def spUst (K : PySem.W.Frag) : Sp := fun vs H Q _ => ∃ (p : Int) (n : Nat) (z : Str) (as : List Int) (v : V) (r : Addr) (R : List (List Int)), vs = [.int p, v, .ref r] ∧ TrAt K H (.op z as) v ∧ GoodOp p (n : Int) z as ∧ z ≠ "read" ∧ z ≠ "write" ∧ RLat H r R ∧ RGd p n R ∧ 0 < n ∧ n ≤ 80 ∧ Prm p ∧
  ∀ H' t a xs r' R', Same H H' → SqT K H' t [.ref a, .ref r'] → SqT K H' a xs → xs.length ≤ 100 → H r' = none → RLat H' r' R' → RGd p n R' → Q (.ref t) H'
set_option maxHeartbeats 4000000 in
theorem ok_ustep (M : Bl mg) (F : At K mg "undone_step" sUndone_step ["p", "instruction", "rows"]) {k : Nat} (h1 : Has P w K mg base k "overwritten" ["instruction"] (spOv K)) (h2 : Has P w K mg base k "inverted" ["p", "instruction"] (spInvd K)) (h3 : Has P w K mg base k "executed" ["p", "instruction", "row"] (spEx K)) (h4 : Has P w K mg base k "restored" ["p", "rows", "x"] (spRsd K)) (h5 : Has P w K mg base k "spanning" ["p", "rows"] (spSpn K)) : Has P w K mg base (k + 1) "undone_step" ["p", "instruction", "rows"] (spUst K) := by
  obtain ⟨_, _, cOverwritten⟩ := h1
  obtain ⟨_, _, cInverted⟩ := h2
  obtain ⟨_, _, cPexecuted⟩ := h3
  obtain ⟨_, _, cRestored⟩ := h4
  obtain ⟨_, _, cSpanning⟩ := h5
  refine Has.by F scUndone_step (fun vs H Q E h => ?_) (fun f cdv A out s H vs Q E hg hr h => ?_)
  · obtain ⟨_, _, _, _, _, _, _, rfl, _⟩ := h
    rfl
  obtain ⟨p, n, z, as, v, r, R, rfl, hT, go, nr, nw, rl, gd, n0, n8, pr, q⟩ := h
  refine ⟨_, (pss_cons (ps_set (i := 3) scUndone_step.nd rfl (.inr rfl) (pe_cal cOverwritten hg hr (by rfl) (pa_cons (pv 1) pa_nil)))
  (pss_cons (ps_if (pt_cmpR op_isN (pv 3) pe_non (nomark _))
    (pss_one (ps_ret (pe_tup (pa_cons (pe_tup (pa_cons (pe_cal cInverted hg hr (by rfl) (pa_cons (pv 0) (pa_cons (pv 1) pa_nil))) pa_nil)) (pa_cons (pe_lc (own := [("row", 6)]) (g := gName 6) (by rfl) scUndone_step.nd (pi_list (pv 2)) (blkOk_by (own := [("row", 6)]) (N := ["p", "instruction", "rows", "x", "back", "after", "row"]) (sc := defScope sUndone_step) (by decide +kernel)) (fun _ _ _ _ _ => (pg_name (i := 6) scUndone_step.nd rfl (.inl rfl))) (fun _ _ _ _ _ => pts_nil) (fun _ _ _ _ _ => (pe_cal cPexecuted hg hr (by rfl) (pa_cons (pv 0) (pa_cons (pv 1) (pa_cons (pv 6) pa_nil)))))) pa_nil)))))
    pss_nil)
  (pss_cons (ps_set (i := 4) scUndone_step.nd rfl (.inl rfl) (pe_cal cRestored hg hr (by rfl) (pa_cons (pv 0) (pa_cons (pv 2) (pa_cons (pv 3) pa_nil)))))
  (pss_cons (ps_if (pt_cmpR op_eq (pe_ix ix_tup (pv 1) pe_int (fun _ _ => rfl)) pe_str (nomark _))
    (pss_cons ps_never
  (pss_one ps_never))
    pss_nil)
  (pss_one (ps_ret (pe_tup (pa_cons (pv 4) (pa_cons (pe_cal cSpanning hg hr (by rfl) (pa_cons (pv 0) (pa_cons (pe_lc (own := [("row", 6)]) (g := gName 6) (by rfl) scUndone_step.nd (pi_list (pv 2)) (blkOk_by (own := [("row", 6)]) (N := ["p", "instruction", "rows", "x", "back", "after", "row"]) (sc := defScope sUndone_step) (by decide +kernel)) (fun _ _ _ _ _ => (pg_name (i := 6) scUndone_step.nd rfl (.inl rfl))) (fun _ _ _ _ _ => pts_nil) (fun _ _ _ _ _ => (pe_cal cPexecuted hg hr (by rfl) (pa_cons (pv 0) (pa_cons (pv 1) (pa_cons (pv 6) pa_nil)))))) pa_nil))) pa_nil))))))))), ?_⟩
  have rl0 := rl
  obtain ⟨rs, hr0, pq⟩ := rl
  have rsl : rs.length = R.length := Paired.length pq
  have few := gd.few
  have rwX : ∀ ns ∈ R.map (exRow p z as), ns.length = n + 1 ∧ Fe p ns := fun ns mn => by
    obtain ⟨ms, mm, rfl⟩ := List.mem_map.mp mn
    obtain ⟨l1, l2⟩ := gd.rw ms mm
    exact ⟨(ex_len go).trans l1, in_ex go (by have := pr.lo; omega) l2⟩
  have oneX : ∃ ns ∈ R.map (exRow p z as), ¬ p ∣ row ns 0 := by
    obtain ⟨ns, mn, h⟩ := gd.one
    refine ⟨_, List.mem_map.mpr ⟨ns, mn, rfl⟩, ?_⟩
    have e : gN (exRow p z as ns) 0 = gN ns 0 := ex_fst go (by have := (gd.rw ns mn).1; omega)
    have e : row (exRow p z as ns) 0 = row ns 0 := e
    rw [e]
    exact h
  refine ⟨_, rfl, v, z, as, p, n, rfl, hT, go, fun H1 s1 => ?_⟩
  refine ⟨_, rfl, rfl, _, rfl, ?_⟩
  cases ho : ovw z as with
  | none =>
    refine iteP rfl ?_
    refine ⟨_, rfl, _, rfl, p, n, z, as, v, rfl, TrAt.kt (Kt.same s1) _ _ hT, go, ho, pr, fun H2 v' s2 => ⟨(by show 1 ≤ sizeLine; decide), fun T1 n1 => ?_⟩⟩
    have s3 := same_new (H := H2) (o := .tup [v']) n1
    have hT1 := upd_same (H := H2) (a := T1) (o := .tup [v'])
    generalize upd H2 T1 (.tup [v']) = H3 at s3 hT1 ⊢
    have H3s := s1.trans (s2.trans s3)
    have H3r : ∀ {b o}, H b = some o → H3 b = some o := fun {b o} h => H3s _ _ h
    refine ⟨_, rfl, r, rfl, ⟨_, SqL.of (H3r hr0)⟩, fun D nD => ?_⟩
    refine lc_list (xs := rs.map V.ref) (fun i H' => ∃ cs : List Addr, H' D = some (.lst (cs.map V.ref)) ∧ Paired (fun a ns => (upd H3 D (.lst [])) a = none ∧ H' a = some (.lst (ns.map V.int))) cs ((R.take i).map (exRow p z as)) ∧ Same H3 H') ⟨[], upd_same, .nil, same_new nD⟩ (fun i H' _ ⟨_, _, _, h⟩ => SqL.of (h _ _ (H3r hr0))) ?_ ?_
    · rintro i y J1 hy ⟨cs, hD1, pc, t1⟩
      rw [List.getElem?_map] at hy
      obtain ⟨a, ea, rfl⟩ := Option.map_eq_some_iff.mp hy
      obtain ⟨ns, en, hn⟩ := L2.paired_nth pq ea
      have ha := t1 _ _ (H3r hn)
      have nl := (gd.rw ns (List.mem_of_getElem? en)).1
      have cl := Paired.length pc
      rw [List.length_map, List.length_take] at cl
      refine ⟨rfl, _, rfl, _, rfl, _, rfl, p, n, z, as, v, a, ns, rfl, TrAt.kt (Kt.same (H3s.trans t1)) _ _ hT, go, nr, pr.lo, pr.hi, SqL.of ha, by omega, fun J2 m t2 nm hm => ?_⟩
      have hD2 := t2 _ _ hD1
      have nDm : m ≠ D := (ne_of_none hD1 nm).symm
      refine ⟨_, hD2, by rw [List.length_map, sizeLine_eq]; omega, cs ++ [m], by rw [upd_same, List.map_append]; rfl, ?_, same_upd (t1.trans t2) nD⟩
      rw [List.take_add_one, en, List.map_append]
      refine paired_snocB (L2.Paired.mapP pc fun a ns ⟨h1, h2⟩ => ⟨h1, ?_⟩) ⟨(upd_ne nDm).trans (t1.free nm), (upd_ne nDm).trans hm⟩
      have na : a ≠ D := fun e => by
        rw [e, upd_same] at h1
        cases h1
      exact (upd_ne na).trans (t2 _ _ h2)
    rintro HX ⟨cs, hDX, pcX, sX⟩
    rw [List.length_map, rsl, List.take_length] at pcX
    have rlX : RLat HX D (R.map (exRow p z as)) := ⟨cs, hDX, L2.Paired.mapP pcX fun _ _ h => h.2⟩
    refine ⟨(by show 2 ≤ sizeLine; decide), fun T2 n2 => ?_⟩
    have s4 := same_new (H := HX) (o := .tup [V.ref T1, V.ref D]) n2
    exact q _ T2 T1 [v'] D _ (H3s.trans (sX.trans s4)) (SqT.of upd_same) (SqT.of (s4 _ _ (sX _ _ hT1))) (by show 1 ≤ 100; decide) (H3s.free nD) (rlX.same s4) ⟨rwX, by rw [List.length_map]; exact few, oneX⟩
  | some x =>
    obtain ⟨x0, xn⟩ : 0 ≤ x ∧ x < (n : Int) := by
      unfold ovw at ho
      split at ho
      · rcases go with ⟨_, a, c, rfl, h⟩ | ⟨_, a, rfl, h⟩ | ⟨_, a, y, rfl, h⟩ | ⟨_, a, y, c, rfl, h⟩ <;> (cases ho; exact ⟨h.1, by have := h.2; omega⟩)
      · cases ho
    obtain ⟨xx, rfl⟩ : ∃ xx : Nat, x = (xx : Int) := ⟨x.toNat, by omega⟩
    refine iteN (fun e => nomatch e) ?_
    refine ⟨_, rfl, _, rfl, _, rfl, p, n, xx, r, R, rfl, rl0.same s1, gd, by omega, n8, pr, fun H2 a2 xs s2 sa2 xl => ?_⟩
    have hT2 := TrAt.kt (Kt.same (s1.trans s2)) _ _ hT
    rw [TrAt] at hT2
    obtain ⟨av, ev, sav⟩ := hT2
    subst ev
    refine ⟨_, rfl, av, _, 0, .str z, rfl, rfl, sav, at0, rfl, _, rfl, iteN (fun e => nr (V.str.inj e)) ?_⟩
    have H2s := s1.trans s2
    have H2r : ∀ {b o}, H b = some o → H2 b = some o := fun {b o} h => H2s _ _ h
    refine ⟨_, rfl, _, rfl, ?_⟩
    refine ⟨_, rfl, r, rfl, ⟨_, SqL.of (H2r hr0)⟩, fun D nD => ?_⟩
    refine lc_list (xs := rs.map V.ref) (fun i H' => ∃ cs : List Addr, H' D = some (.lst (cs.map V.ref)) ∧ Paired (fun a ns => (upd H2 D (.lst [])) a = none ∧ H' a = some (.lst (ns.map V.int))) cs ((R.take i).map (exRow p z as)) ∧ Same H2 H') ⟨[], upd_same, .nil, same_new nD⟩ (fun i H' _ ⟨_, _, _, h⟩ => SqL.of (h _ _ (H2r hr0))) ?_ ?_
    · rintro i y J1 hy ⟨cs, hD1, pc, t1⟩
      rw [List.getElem?_map] at hy
      obtain ⟨a, ea, rfl⟩ := Option.map_eq_some_iff.mp hy
      obtain ⟨ns, en, hn⟩ := L2.paired_nth pq ea
      have ha := t1 _ _ (H2r hn)
      have nl := (gd.rw ns (List.mem_of_getElem? en)).1
      have cl := Paired.length pc
      rw [List.length_map, List.length_take] at cl
      refine ⟨rfl, _, rfl, _, rfl, _, rfl, p, n, z, as, .ref av, a, ns, rfl, TrAt.kt (Kt.same (H2s.trans t1)) _ _ hT, go, nr, pr.lo, pr.hi, SqL.of ha, by omega, fun J2 m t2 nm hm => ?_⟩
      have hD2 := t2 _ _ hD1
      have nDm : m ≠ D := (ne_of_none hD1 nm).symm
      refine ⟨_, hD2, by rw [List.length_map, sizeLine_eq]; omega, cs ++ [m], by rw [upd_same, List.map_append]; rfl, ?_, same_upd (t1.trans t2) nD⟩
      rw [List.take_add_one, en, List.map_append]
      refine paired_snocB (L2.Paired.mapP pc fun a ns ⟨h1, h2⟩ => ⟨h1, ?_⟩) ⟨(upd_ne nDm).trans (t1.free nm), (upd_ne nDm).trans hm⟩
      have na : a ≠ D := fun e => by
        rw [e, upd_same] at h1
        cases h1
      exact (upd_ne na).trans (t2 _ _ h2)
    rintro HX ⟨cs, hDX, pcX, sX⟩
    rw [List.length_map, rsl, List.take_length] at pcX
    have rlX : RLat HX D (R.map (exRow p z as)) := ⟨cs, hDX, L2.Paired.mapP pcX fun _ _ h => h.2⟩
    refine ⟨p, n, D, _, rfl, rlX, rwX, oneX, n8, pr, fun H4 r' R' s4 fr' rl' gd' _ => ⟨(by show 2 ≤ sizeLine; decide), fun T2 n2 => ?_⟩⟩
    have s5 := same_new (H := H4) (o := .tup [V.ref a2, V.ref r']) n2
    exact q _ T2 a2 xs r' R' (H2s.trans (sX.trans (s4.trans s5))) (SqT.of upd_same) ((Kt.same (sX.trans (s4.trans s5))).sq sa2) xl ((H2s.trans sX).free fr') (rl'.same s5) gd'
end
end K32
set_option Elab.async false
set_option linter.all false
set_option maxRecDepth 100000
set_option pp.maxSteps 500
set_option pp.deepTerms.threshold 8
set_option pp.deepTerms false
namespace K32
open PySem PySem.Spec PyProof.Rows L2 Lj
section
variable {P : Program} {w : World} {K : PySem.W.Frag} {mg : Str → Option Value} {base : Heap} {CT CP : Addr}
/-! ### a program without reads in its loops, which execute nothing, undone -/
def spUpt (K : PySem.W.Frag) (CP : Addr) : Sp := fun vs H Q _ => ∃ (p : Int) (n : Nat) (z : Str) (as : List Int) (v w : V) (x dx qa r : Addr) (st : Int) (R : List (List Int)), vs = [.ref x, .ref r] ∧ H x = some (.ins CP dx (pf p n v st .non qa w)) ∧ TrAt K H (.op z as) v ∧ GoodOp p (n : Int) z as ∧ z ≠ "read" ∧ z ≠ "write" ∧ RLat H r R ∧ RGd p n R ∧ 0 < n ∧ n ≤ 80 ∧ Prm p ∧
  ∀ H' t a xs r' R', Same H H' → SqT K H' t [.ref a, .ref r'] → SqT K H' a xs → xs.length ≤ 100 → H r' = none → RLat H' r' R' → RGd p n R' → Q (.ref t) H'
theorem ok_upart (M : Bl mg) (F : At K mg "undone_part" sUndone_part ["part", "rows"]) (PT : PTxt K mg CP) {k : Nat} (h : Has P w K mg base k "undone_step" ["p", "instruction", "rows"] (spUst K)) : Has P w K mg base (k + 1) "undone_part" ["part", "rows"] (spUpt K CP) := by
  obtain ⟨_, _, cUndone_step⟩ := h
  refine Has.by F scUndone_part (fun vs H Q E h => ?_) (fun f cdv A out s H vs Q E hg hr h => ?_)
  · obtain ⟨_, _, _, _, _, _, _, _, _, _, _, _, rfl, _⟩ := h
    rfl
  obtain ⟨p, n, z, as, v, w0, x, dx, qa, r, st, R, rfl, hx, hT, go, nr, nw, rl, gd, n0, n8, pr, q⟩ := h
  refine ⟨_, (pss_cons (ps_if (pt_cmpR op_isN (pe_fld (pv 0) rfl) pe_non (nomark _))
    (pss_one (ps_ret (pe_cal cUndone_step hg hr (by rfl) (pa_cons (pe_fld (pv 0) rfl) (pa_cons (pe_fld (pv 0) rfl) (pa_cons (pv 1) pa_nil))))))
    pss_nil)
  (pss_cons ps_never
  (pss_one ps_never))), ?_⟩
  refine ⟨_, rfl, x, CP, dx, _, _, rfl, hx, PT.cl, PT.nB, pf_body _ _ _ _ _ _ _, rfl, _, rfl, iteP rfl ?_⟩
  exact ⟨_, rfl, x, CP, dx, _, _, rfl, hx, PT.cl, PT.nP, pf_p _ _ _ _ _ _ _, _, rfl, x, CP, dx, _, _, rfl, hx, PT.cl, PT.nI, pf_ins _ _ _ _ _ _ _, _, rfl, p, n, z, as, v, r, R, rfl, hT, go, nr, nw, rl, gd, n0, n8, pr, q⟩
def spLf (K : PySem.W.Frag) : Sp := fun vs H Q _ => ∃ (g : Addr) (gs : List Addr), vs = [.ref g] ∧ H g = some (.lst (gs.map V.ref)) ∧ gs.length ≤ 100 ∧ (∀ a ∈ gs, ∃ xs, SqT K H a xs ∧ xs.length ≤ 100) ∧
  ∀ H' a xs, Same H H' → SqT K H' a xs → Q (.ref a) H'
theorem ok_lastf (M : Bl mg) (m_reversed : mg "reversed" = none) (F : At K mg "last_first" sLast_first ["groups"]) {k : Nat} : Has P w K mg base (k + 1) "last_first" ["groups"] (spLf K) := by
  refine Has.by F scLast_first (fun vs H Q E h => ?_) (fun f cdv A out s H vs Q E hg hr h => ?_)
  · obtain ⟨_, _, rfl, _⟩ := h
    rfl
  obtain ⟨g, gs, rfl, hg0, gl, gx, q⟩ := h
  refine ⟨_, (pss_cons (ps_set (i := 1) scLast_first.nd rfl (.inl rfl) (pe_lst pa_nil))
  (pss_cons (ps_for PassesOwn.never rfl (pi_reversed (by rfl) m_reversed (pa_cons (pv 0) pa_nil)) (pg_name (i := 2) scLast_first.nd rfl (.inl rfl))
    (pss_one (ps_expr (pe_bm PySem.F.plainAttrs_list PySem.F.slot_list_extend PySem.F.type_list_extend mt_extendT (pv 1) (pa_cons (pv 2) pa_nil)))))
  (pss_one (ps_ret (pe_callTy call_tuple_of (by rfl) M.tuple_ (by decide +kernel) (pa_cons (pv 1) pa_nil)))))), ?_⟩
  refine ⟨Nat.zero_le _, fun D nD => ?_⟩
  have s1 := same_new (H := H) (o := .lst []) nD
  refine ⟨_, rfl, g, _, rfl, SqL.of (s1 _ _ hg0), ?_⟩
  refine for_it walk_rev (fun i σ H' => ∃ y ws, σ = [some (.ref g), some (.ref D), y] ∧ H' D = some (.lst ws) ∧ ws.length ≤ 100 * i ∧ Same H H') ⟨_, [], rfl, upd_same, Nat.zero_le _, s1⟩ (fun i σ H' _ ⟨_, _, _, _, _, h⟩ => SqL.of (h _ _ hg0)) ?_ ?_
  · rintro i x σ H1 H2 hi ⟨y, ws, rfl, hD, wl, s⟩ ⟨rfl, hx⟩
    have hi : i < (gs.map V.ref).length := hi
    rw [List.length_map] at hi
    obtain ⟨a, ma, rfl⟩ := List.mem_map.mp (List.mem_of_getElem? hx)
    obtain ⟨xs, sa, xl⟩ := gx a ma
    refine ⟨_, rfl, .inl ⟨rfl, _, SqL.of hD⟩, _, rfl, D, a, ws, xs, rfl, rfl, hD, (Kt.same s).sq sa, by rw [sizeLine_eq]; omega, ?_⟩
    exact ⟨_, _, rfl, upd_same, by rw [List.length_append]; omega, same_upd s nD⟩
  · rintro σ H1 ⟨y, ws, rfl, hD, wl, s⟩
    refine ⟨_, rfl, D, ws, rfl, .inl ⟨SqL.of hD, fun T nT => ?_⟩⟩
    exact q _ T ws (s.trans (same_new nT)) (SqT.of upd_same)
theorem rows_upd {H : Hp} {u : Addr} {gs : List Addr} {o : HO} (hu : H u = some (.lst (gs.map V.ref))) : ∀ {as : List Addr} {R : List (List Int)}, Paired (fun a ns => H a = some (.lst (ns.map V.int))) as R → (∀ ns ∈ R, ns ≠ []) → Paired (fun a ns => (upd H u o) a = some (.lst (ns.map V.int))) as R
  | _, _, .nil, _ => .nil
  | a :: _, ns :: _, .cons h t, hR => by
    refine .cons ?_ (rows_upd hu t fun x mx => hR x (List.mem_cons_of_mem _ mx))
    have nu : a ≠ u := fun e => by
      rw [e, hu] at h
      have ne := hR ns List.mem_cons_self
      cases ns with
      | nil => exact ne rfl
      | cons c ns =>
        cases gs with
        | nil => cases h
        | cons g gs => cases h
    exact (upd_ne nu).trans h
theorem RLat.upd {H : Hp} {u r : Addr} {gs : List Addr} {o : HO} {R : List (List Int)} (h : RLat H r R) (hu : H u = some (.lst (gs.map V.ref))) (ne : r ≠ u) (hR : ∀ ns ∈ R, ns ≠ []) : RLat (L2.upd H u o) r R := by
  obtain ⟨as, e, q⟩ := h
  exact ⟨as, (upd_ne ne).trans e, rows_upd hu q hR⟩
/-- what a program is that undone takes here -/
def Plain (p : Int) (n : Nat) (b : List Tr) : Prop := ∀ t ∈ b, (∃ z as, t = .op z as ∧ GoodOp p (n : Int) z as ∧ z ≠ "read" ∧ z ≠ "write") ∨ ∃ k b', t = .loop k b' ∧ Tr.len (.loop k b') = 0
def spUnd (K : PySem.W.Frag) (CT CP : Addr) : Sp := fun vs H Q _ => ∃ (p : Int) (n N : Nat) (G : Gh) (tb r : Addr) (b : List Tr) (R : List (List Int)), vs = [.ref tb, .ref r] ∧ InvG CP p (n : Int) N G H ∧ TkAt K CT p (n : Int) G (wg G H) b (.ref tb) ∧ Plain p n b ∧ b.length ≤ 100 ∧ RLat H r R ∧ RGd p n R ∧ 0 < n ∧ n ≤ 80 ∧ Prm p ∧
  ∀ H' t a r' xs, Same H H' → SqT K H' t [.ref a, .ref r'] → SqT K H' a xs → Q (.ref t) H'
set_option maxHeartbeats 4000000 in
theorem ok_undone (M : Bl mg) (F : At K mg "undone" sUndone ["track", "rows"]) (TT : TTxt K mg CT) (PT : PTxt K mg CP) {k : Nat} (h1 : Has P w K mg base k "undone_part" ["part", "rows"] (spUpt K CP)) (h2 : Has P w K mg base k "last_first" ["groups"] (spLf K)) : Has P w K mg base (k + 1) "undone" ["track", "rows"] (spUnd K CT CP) := by
  obtain ⟨_, _, cUndone_part⟩ := h1
  obtain ⟨_, _, cLast_first⟩ := h2
  refine Has.by F scUndone (fun vs H Q E h => ?_) (fun f cdv A out s H vs Q E hg hr h => ?_)
  · obtain ⟨_, _, _, _, _, _, _, _, rfl, _⟩ := h
    rfl
  obtain ⟨p, n, N, G, tb, r, b, R, rfl, I, ⟨tb', dt, l, vs, e, ht, hl, pts⟩, pl, b100, rl, gd, n0, n8, pr, q⟩ := h
  cases e
  refine ⟨_, (pss_cons (ps_set (i := 2) scUndone.nd rfl (.inl rfl) (pe_lst pa_nil))
  (pss_cons (ps_set (i := 3) scUndone.nd rfl (.inl rfl) (pv 1))
  (pss_cons (ps_for PassesOwn.never rfl (pi_list (pe_fld (pv 0) rfl)) (pg_name (i := 4) scUndone.nd rfl (.inl rfl))
    (pss_one (ps_if (pt_cmpR op_gt (pe_fld (pv 4) rfl) pe_int (nomark _))
    (pss_cons (ps_asg (pe_cal cUndone_part hg hr (by rfl) (pa_cons (pv 4) (pa_cons (pv 3) pa_nil))) (pg_tup rfl (pgs_cons (pg_name (i := 5) scUndone.nd rfl (.inl rfl)) (pgs_cons (pg_name (i := 3) scUndone.nd rfl (.inl rfl)) pgs_nil))))
  (pss_one (ps_expr (pe_bm PySem.F.plainAttrs_list PySem.F.slot_list_append PySem.F.type_list_append mt_append (pv 2) (pa_cons (pv 5) pa_nil)))))
    pss_nil)))
  (pss_one (ps_ret (pe_tup (pa_cons (pe_cal cLast_first hg hr (by rfl) (pa_cons (pv 2) pa_nil)) (pa_cons (pv 3) pa_nil)))))))), ?_⟩
  have ht := wg_on _ _ ht
  have hl := wg_on _ _ hl
  have vl := pts.length
  refine ⟨Nat.zero_le _, fun gl ngl => ?_⟩
  have s1 := same_new (H := H) (o := .lst []) ngl
  have hgl := upd_same (H := H) (a := gl) (o := .lst [])
  generalize upd H gl (.lst []) = H1 at s1 hgl ⊢
  refine ⟨_, rfl, ?_⟩
  refine ⟨_, rfl, tb, CT, dt, _, _, rfl, s1 _ _ ht, TT.cl, TT.nL, tf_parts _ _ _ _ _ _, l, rfl, ⟨_, SqL.of (s1 _ _ hl)⟩, ?_⟩
  have hr0 : ∃ o, H r = some o := by
    obtain ⟨as, h, _⟩ := rl
    exact ⟨_, h⟩
  have nrg : r ≠ gl := fun e => by
    obtain ⟨o, ho⟩ := hr0
    rw [e, ngl] at ho
    cases ho
  refine for_list (xs := vs) (fun i σ H' => ∃ y4 y5 hh gs R', σ = [some (.ref tb), some (.ref r), some (.ref gl), some (.ref hh), y4, y5] ∧ H' gl = some (.lst (gs.map V.ref)) ∧ gs.length ≤ i ∧ (∀ a ∈ gs, ∃ xs, SqT K H' a xs ∧ xs.length ≤ 100) ∧ hh ≠ gl ∧ RLat H' hh R' ∧ RGd p n R' ∧ Same H H') ⟨_, _, r, [], R, rfl, hgl, Nat.le_refl _, (fun a ma => by cases ma), nrg, rl.same s1, gd, s1⟩ (fun i σ H' _ ⟨_, _, _, _, _, _, _, _, _, _, _, _, h⟩ => SqL.of (h _ _ hl)) ?_ ?_
  · rintro i x σ H2 hx ⟨y4, y5, hh, gs, R2, rfl, hg2, gsl, gx, nhg, rl2, gd2, s2⟩
    obtain ⟨t, ht', pt⟩ := pts.get hx
    have mt := List.mem_of_getElem? ht'
    have il : i < 100 := by
      have := (List.getElem?_eq_some_iff.mp hx).1
      omega
    rcases pl t mt with ⟨z, as, rfl, go, nr, nw⟩ | ⟨kk, b', rfl, len0⟩
    · rw [PtAt] at pt
      obtain ⟨a, dx, v, qa, rfl, ga, hT⟩ := pt
      obtain ⟨w0, ha, _⟩ := I a _ ga
      have ha2 := s2 _ _ ha
      refine ⟨_, rfl, a, CP, dx, _, _, rfl, ha2, PT.cl, PT.nS, pf_steps _ _ _ _ _ _ _, _, _, rfl, rfl, _, rfl, iteP (by show Tr.len (.op z as) > 0; rw [Tr.len]; decide) ?_⟩
      refine ⟨_, rfl, _, rfl, p, n, z, as, v, w0, a, dx, qa, hh, _, R2, rfl, ha2, TrAt.kt (Kt.same s2) _ _ (TrAt.kt (Kt.same wg_on) _ _ hT), go, nr, nw, rl2, gd2, n0, n8, pr, fun H3 t3 a3 xs3 r3 R3 s3 sq3 sqa xl3 fr3 rl3 gd3 => ?_⟩
      have hg3 := s3 _ _ hg2
      refine ⟨t3, _, rfl, sq3, rfl, _, _, rfl, _, _, rfl, rfl, ?_⟩
      refine ⟨_, rfl, .inl ⟨rfl, _, SqL.of hg3⟩, _, rfl, gl, _, _, rfl, rfl, hg3, by rw [List.length_map, sizeLine_eq]; omega, ?_⟩
      have nr3 : r3 ≠ gl := fun e => by
        rw [e, hg2] at fr3
        cases fr3
      have kt : Kt H3 (upd H3 gl (.lst (gs.map V.ref ++ [V.ref a3]))) := Kt.but But.upd hg3
      refine ⟨_, _, r3, gs ++ [a3], R3, rfl, by rw [upd_same, List.map_append]; rfl, by rw [List.length_append]; show gs.length + 1 ≤ _; omega, fun c mc => ?_, nr3, rl3.upd hg3 nr3 (fun ns mn e => ?_), gd3, same_upd (s2.trans s3) ngl⟩
      · rcases List.mem_append.mp mc with m | m
        · obtain ⟨xs, sx, xl⟩ := gx c m
          exact ⟨xs, kt.sq ((Kt.same s3).sq sx), xl⟩
        · rw [List.mem_singleton.mp m]
          exact ⟨xs3, kt.sq sqa, xl3⟩
      · have := (gd3.rw ns mn).1
        rw [e] at this
        cases this
    · rw [PtAt] at pt
      obtain ⟨a, dx, v, qa, tb2, dt2, l2, vs2, rfl, ga, _⟩ := pt
      obtain ⟨w0, ha, _⟩ := I a _ ga
      have ha2 := s2 _ _ ha
      refine ⟨_, rfl, a, CP, dx, _, _, rfl, ha2, PT.cl, PT.nS, pf_steps _ _ _ _ _ _ _, _, _, rfl, rfl, _, rfl, iteN (by rw [len0]; decide) ?_⟩
      exact ⟨_, _, hh, gs, R2, rfl, hg2, by omega, gx, nhg, rl2, gd2, s2⟩
  · rintro σ H2 ⟨y4, y5, hh, gs, R2, rfl, hg2, gsl, gx, nhg, rl2, gd2, s2⟩
    have gl100 : gs.length ≤ 100 := by omega
    refine ⟨_, rfl, gl, gs, rfl, hg2, gl100, gx, fun H3 a xs s3 sa => ?_⟩
    refine ⟨_, rfl, (by show 2 ≤ sizeLine; decide), fun T nT => ?_⟩
    have s4 := same_new (H := H3) (o := .tup [V.ref a, V.ref hh]) nT
    exact q _ T a hh xs (s2.trans (s3.trans s4)) (SqT.of upd_same) ((Kt.same s4).sq sa)
end
end K32
set_option Elab.async false
set_option linter.all false
set_option maxRecDepth 100000
set_option pp.maxSteps 500
set_option pp.deepTerms.threshold 8
set_option pp.deepTerms false
namespace K32
open PySem PySem.Spec PyProof.Rows L2 Lj
section
variable {P : Program} {w : World} {K : PySem.W.Frag} {mg : Str → Option Value} {base : Heap} {CT CP : Addr}
/-! ### backward -/
theorem rows_rl {H0 H : Hp} : ∀ {R : List (List Int)} {us : List V}, RowsAt H R us → ∃ as : List Addr, us = as.map V.ref ∧ Paired (fun a ns => H a = some (.lst (ns.map V.int))) as R
  | [], us, h => ⟨[], h, .nil⟩
  | r :: R, us, h => by
    obtain ⟨v, ws, rfl, ⟨a, rfl, ha⟩, t⟩ := h
    obtain ⟨as, rfl, q⟩ := rows_rl (H0 := H0) t
    exact ⟨a :: as, rfl, .cons ha q⟩
def spBw (K : PySem.W.Frag) (CL CD : Addr) : Sp := fun vs H Q E => ∃ (p : Int) (n : Nat) (v : V) (b : List Tr), vs = [.int p, .int (n : Int), v] ∧ BodyAt K H b v ∧ okB 5 b ∧
  (szs b > 40 → ∀ d H', Same H H' → H d = none → H' d = some (.xd [("size", .int (szs b))]) → E (.ref CL) (some d) H') ∧
  (szs b ≤ 40 → deps b > 2 → ∀ d H', Same H H' → H d = none → H' d = some (.xd [("depth", .int (deps b))]) → E (.ref CD) (some d) H') ∧
  (szs b ≤ 40 → deps b ≤ 2 → Plain p n (sils b) ∧ b.length ≤ 100 ∧ Prm p ∧ 0 < n ∧ n ≤ 80 ∧ ∀ H' v', Same H H' → Q v' H')
set_option maxHeartbeats 4000000 in
theorem ok_backward (M : Bl mg) {CL fL CD fD : Addr} (TL : ErrTxt P K mg "TooLong" "size" CL fL) (TD : ErrTxt P K mg "TooDeep" "depth" CD fD) {t1 t2 : Tok} (g_MAX_SIZE : mg "MAX_SIZE" = some (.int 40 t1)) (g_MAX_DEPTH : mg "MAX_DEPTH" = some (.int 2 t2)) (F : At K mg "backward" sBackward ["p", "n", "program"]) {k : Nat} (h1 : Has P w K mg base (k + 1) "size" ["program"] (spTI K (okB 5) szs)) (h2 : Has P w K mg base (k + 1) "depth" ["program"] (spTI K (okB 5) deps)) (h3 : Has P w K mg base (k + 1) "undone" ["track", "rows"] (spUnd K CT CP)) (h4 : KHas P w K mg base k CT "Track" ["self", "p", "n", "program"] (spTInit K CT CP 5)) (h5 : Has P w K mg base (k + 1) "silent" ["program"] (spSil K (okB 5))) (h6 : Has P w K mg base (k + 1) "units" ["n"] spUnits) : HasE P w K mg base (k + 2) "backward" ["p", "n", "program"] (spBw K CL CD) := by
  obtain ⟨_, _, cSize⟩ := h1
  obtain ⟨_, _, cDepth⟩ := h2
  obtain ⟨_, _, cUndone⟩ := h3
  obtain ⟨_, _, cTrack⟩ := h4
  obtain ⟨_, _, cSilent⟩ := h5
  obtain ⟨_, _, cUnits⟩ := h6
  refine HasE.by F scBackward (fun vs H Q E h => ?_) (fun f cdv A out s H vs Q E hg hr h => ?_)
  · obtain ⟨_, _, _, _, rfl, _⟩ := h
    rfl
  obtain ⟨p, n, v, b, rfl, hB, ok, eL, eD, qy⟩ := h
  refine ⟨_, (pss_cons (ps_if (pt_cmpR op_gt (pe_cal cSize hg hr (by rfl) (pa_cons (pv 2) pa_nil)) (pe_glob (v := .int 40) (by rfl) g_MAX_SIZE ⟨_, rfl⟩) (nomark _))
    (pss_one (ps_raiseErr rfl TL hr (takes_of rfl rfl rfl rfl) (pa_cons (pe_cal cSize hg hr (by rfl) (pa_cons (pv 2) pa_nil)) pa_nil) (by rfl)))
    pss_nil)
  (pss_cons (ps_if (pt_cmpR op_gt (pe_cal cDepth hg hr (by rfl) (pa_cons (pv 2) pa_nil)) (pe_glob (v := .int 2) (by rfl) g_MAX_DEPTH ⟨_, rfl⟩) (nomark _))
    (pss_one (ps_raiseErr rfl TD hr (takes_of rfl rfl rfl rfl) (pa_cons (pe_cal cDepth hg hr (by rfl) (pa_cons (pv 2) pa_nil)) pa_nil) (by rfl)))
    pss_nil)
  (pss_cons (ps_asg (pe_cal cUndone hg hr (by rfl) (pa_cons (pe_kcal cTrack hg hr (by rfl) (pa_cons (pv 0) (pa_cons (pv 1) (pa_cons (pe_cal cSilent hg hr (by rfl) (pa_cons (pv 2) pa_nil)) pa_nil)))) (pa_cons (pe_cal cUnits hg hr (by rfl) (pa_cons (pv 1) pa_nil)) pa_nil))) (pg_tup rfl (pgs_cons (pg_name (i := 3) scBackward.nd rfl (.inl rfl)) (pgs_cons (pg_name (i := 4) scBackward.nd rfl (.inl rfl)) pgs_nil))))
  (pss_one (ps_ret (pv 3)))))), ?_⟩
  refine ⟨_, rfl, v, b, rfl, hB, ok, fun H1 s1 => ⟨_, _, rfl, rfl, _, rfl, ?_⟩⟩
  have hB1 := hB.kt (Kt.same s1)
  by_cases c1 : szs b > 40
  · refine iteP c1 ?_
    refine ⟨_, rfl, v, b, rfl, hB1, ok, fun H2 s2 => ⟨.int (szs b), rfl, fun d nd => ?_⟩⟩
    exact eL c1 d _ ((s1.trans s2).trans (same_new nd)) ((s1.trans s2).free nd) upd_same
  refine iteN c1 ?_
  have c1 : szs b ≤ 40 := by omega
  refine ⟨_, rfl, v, b, rfl, hB1, ok, fun H2 s2 => ⟨_, _, rfl, rfl, _, rfl, ?_⟩⟩
  have s12 := s1.trans s2
  have hB2 := hB.kt (Kt.same s12)
  by_cases c2 : deps b > 2
  · refine iteP c2 ?_
    refine ⟨_, rfl, v, b, rfl, hB2, ok, fun H3 s3 => ⟨.int (deps b), rfl, fun d nd => ?_⟩⟩
    exact eD c1 c2 d _ ((s12.trans s3).trans (same_new nd)) ((s12.trans s3).free nd) upd_same
  refine iteN c2 ?_
  obtain ⟨pl, b100, pr, n0, n8, q⟩ := qy c1 (by omega)
  refine ⟨_, rfl, _, rfl, _, rfl, v, b, rfl, hB2, ok, fun H3 v3 s3 hv3 => ?_⟩
  refine fun y dy ny ndy ney => ?_
  have I0 : InvG CP p n (n + 1) (fun _ => none) H3 := fun a c e => nomatch e
  refine ⟨p, n, n + 1, fun _ => none, H3, y, dy, v3, sils b, rfl, same_upd (same_new ndy) ny, ny, upd_same, I0, hv3, sils_ok ok, fun G1 Hc H4 co gr I1 tk => ⟨rfl, ?_⟩⟩
  have I2 := I1.same co.b
  have tk2 := tk.monoP (fun _ _ _ _ _ _ e => e) (wg_same (G := G1) co.b)
  have s4 : Same H3 H4 := co.a.trans co.b
  refine ⟨_, rfl, n, n + 1, rfl, rfl, by omega, fun H5 vu s5 mu => ?_⟩
  obtain ⟨ua, us, rfl, hua, ru⟩ := mu
  obtain ⟨as, rfl, pq⟩ := rows_rl (H0 := H4) ru
  have rl : RLat H5 ua ((List.range (n + 1)).map (un (n + 1))) := ⟨as, nw_on _ _ hua, L2.Paired.mapP pq fun a ns z => nw_on _ _ z⟩
  have gd : RGd p n ((List.range (n + 1)).map (un (n + 1))) := by
    refine ⟨fun ns mn => ?_, by rw [List.length_map, List.length_range]; exact Nat.le_refl _, un (n + 1) 0, List.mem_map.mpr ⟨0, List.mem_range.mpr (by omega), rfl⟩, fun hd => ?_⟩
    · obtain ⟨j, _, rfl⟩ := List.mem_map.mp mn
      exact ⟨un_len _ _, un_in pr.lo _ _⟩
    · have e : row (un (n + 1) 0) 0 = 1 := un_gN (by omega) 0
      rw [e] at hd
      have := Int.le_of_dvd (by decide) hd
      have := pr.lo
      omega
  refine ⟨p, n, n + 1, G1, y, ua, sils b, _, rfl, I2.same s5, tk2.monoP (fun _ _ _ _ _ _ e => e) (wg_same (G := G1) s5), pl, by have := sil_len b; omega, rl, gd, n0, n8, pr, fun H6 t a r' xs s6 sq sa => ?_⟩
  refine ⟨t, _, rfl, sq, rfl, _, _, rfl, _, _, rfl, rfl, ?_⟩
  exact ⟨_, rfl, q H6 _ (s12.trans (s3.trans (s4.trans (s5.trans s6))))⟩
end
end K32
set_option Elab.async false
set_option linter.all false
set_option maxRecDepth 100000
set_option pp.maxSteps 500
set_option pp.deepTerms.threshold 8
set_option pp.deepTerms false
namespace K32
open PySem PySem.Spec PyProof.Rows L2 Lj
theorem un1 {k : Nat} {A : Around} (hr : Room k A) : A.units + 1 < cLine := by
  have := hr.un
  omega
theorem pow_ok : CPowW (10 ^ (60 : Int).toNat) 10 := ⟨by decide, by decide +kernel⟩
theorem pow_pos9 : (0 : Int) < (10 ^ (60 : Int).toNat) ^ (10 : Int).toNat := by decide +kernel
def prs7 : List Int := [2147483647, 2147483629, 2147483587, 2147483579, 2147483563, 2147483549, 2147483543]
theorem prs7_bd {q : Int} (h : q ∈ prs7) : 0 < q ∧ q ≤ 2147483647 := by
  have z : (prs7.all fun q => decide (0 < q) && decide (q ≤ 2147483647)) = true := by decide
  have k := List.all_eq_true.mp z q h
  rw [Bool.and_eq_true] at k
  exact ⟨of_decide_eq_true k.1, of_decide_eq_true k.2⟩
section
variable {P : Program} {w : World} {K : PySem.W.Frag} {mg : Str → Option Value} {base : Heap}
theorem ok_pot (M : Bl mg) (F : At K mg "_law_pot" sPot ["_law_script", "_law_k"]) {k : Nat} : Has P w K mg base (k + 1) "_law_pot" ["_law_script", "_law_k"] (spPot K) := by
  refine Has.by F scPot (fun vs H Q E h => ?_) (fun f cdv A out s H vs Q E hg hr h => ?_)
  · obtain ⟨a, ns, k, rfl, _⟩ := h
    rfl
  obtain ⟨a, ns, k, rfl, hS, h0, h1, q⟩ := h
  refine ⟨_, (Evl.pss_cut (ps_set (i := 2) scPot.nd rfl (.inl rfl) (pe_ifExp (pt_cmpR op_lt (pv 1) (pe_callB call_len_seq (by rfl) M.len_ (by decide +kernel) (pa_cons (pv 0) pa_nil)) (nomark _)) (pe_ix ix_list (pv 0) (pv 1) (fun _ _ => rfl)) (pe_op op_add (pe_op op_mul pe_int (pv 1)) pe_int)))
  (pss_cons (ps_set (i := 3) scPot.nd rfl (.inl rfl) (pe_op op_mul (pe_op op_mod (pe_callB call_abs (by rfl) M.abs_ (by decide +kernel) (pa_cons (pv 2) pa_nil)) (pe_op op_powW (pe_op op_pow pe_int pe_int) pe_int)) (pe_callTy call_int1 (by rfl) M.int_ (by decide +kernel) (pa_cons (pe_cmpR op_ge (pe_callB call_abs (by rfl) M.abs_ (by decide +kernel) (pa_cons (pv 2) pa_nil)) (pe_op op_pow pe_int pe_int) (nomark _)) pa_nil))))
  (pss_one (ps_ret (pe_lst (pa_cons (pv 3) (pa_cons (pe_op op_mod (pe_op op_add (pe_op op_add (pe_op op_mul (pe_op op_mod (pv 2) pe_int) pe_int) (pe_op op_mul pe_int (pv 1))) pe_int) pe_int) (pa_cons pe_int pa_nil)))))))), ?_⟩
  refine ⟨fun σ H' => ∃ c : Int, σ = [some (.ref a), some (.int k), some (.int c), none] ∧ H' = H, ?_, ?_⟩
  · refine ⟨_, rfl, _, rfl, a, _, rfl, .inl hS, _, _, rfl, rfl, _, rfl, ite2 (fun c => ?_) (fun c => ?_)⟩
    · have c' : k < (((ns.map V.int).length : Nat) : Int) := of_decide_eq_true c
      rw [List.length_map] at c'
      obtain ⟨v, _, hv⟩ := at_int (ns := ns) h0 c'
      exact ⟨_, rfl, _, rfl, a, _, _, _, rfl, rfl, hS, hv, v, rfl, rfl⟩
    · exact ⟨_, rfl, 3, k, rfl, rfl, .inl ⟨by decide, by decide⟩, _, _, rfl, rfl, _, rfl, rfl⟩
  · rintro σ' H' ⟨c, rfl, rfl⟩
    refine ⟨_, rfl, c, rfl, 10, 60, rfl, rfl, ⟨by decide, by decide, by decide⟩, _, 10, rfl, rfl, pow_ok, _, _, rfl, rfl, pow_pos9, _, rfl, c, rfl, 10, 18, rfl, rfl, ⟨by decide, by decide, by decide⟩, _, _, rfl, rfl, .inr ⟨_, rfl, _, _, rfl, rfl, .inr (ind_bd _), ?_⟩⟩
    refine ⟨_, rfl, _, rfl, c, _, rfl, rfl, (by show (0 : Int) < 2305843009213693951; decide), _, _, rfl, rfl, .inr ⟨by decide, by decide⟩, _, rfl, 15485863, k, rfl, rfl, .inl ⟨by decide, by decide⟩, _, _, rfl, rfl, _, _, rfl, rfl, _, _, rfl, rfl, (by show (0 : Int) < 2305843009213693921; decide), (by show 3 ≤ sizeLine; decide), fun p np => ?_⟩
    exact q _ p (same_new np) np ⟨_, _, 0, upd_same, ind_nn (Int.emod_nonneg _ (Int.ne_of_gt pow_pos9)) _, Int.emod_nonneg _ (by decide), Int.lt_trans (Int.emod_lt_of_pos _ (by decide)) (by decide), Int.le_refl _, Int.le_refl _⟩
theorem ok_take (F : At K mg "_law_take" sTake ["_law_pot_here", "_law_many"]) {k : Nat} : Has P w K mg base (k + 1) "_law_take" ["_law_pot_here", "_law_many"] spTk7 := by
  refine Has.by F scTake (fun vs H Q E h => ?_) (fun f cdv A out s H vs Q E hg hr h => ?_)
  · obtain ⟨_, _, _, rfl, _⟩ := h
    rfl
  obtain ⟨p, n, c, rfl, ⟨u, v, k, hp, u0, v0, v1, k0, k1⟩, c1, n0, n1, q⟩ := h
  refine ⟨_, (pss_cons (ps_if (pt_cmpR op_gt (pe_ix ix_list (pv 0) pe_int (fun _ _ => rfl)) pe_int (nomark _))
    (pss_cons (ps_set (i := 2) scTake.nd rfl (.inl rfl) (pe_op op_mod (pe_ix ix_list (pv 0) pe_int (fun _ _ => rfl)) (pv 1)))
  (pss_cons (ps_asg (pe_op op_fdivW (pe_ix ix_list (pv 0) pe_int (fun _ _ => rfl)) (pv 1)) (pg_sub (pv 0) pe_int set_list))
  (pss_one (ps_ret (pv 2)))))
    pss_nil)
  (pss_cons (ps_asg (pe_op op_add (pe_ix ix_list (pv 0) pe_int (fun _ _ => rfl)) pe_int) (pg_sub (pv 0) pe_int set_list))
  (pss_cons (ps_set (i := 3) scTake.nd rfl (.inl rfl) (pe_ix ix_list (pe_lst (pa_cons pe_int (pa_cons pe_int (pa_cons pe_int (pa_cons pe_int (pa_cons pe_int (pa_cons pe_int (pa_cons pe_int pa_nil)))))))) (pe_op op_mod (pe_ix ix_list (pv 0) pe_int (fun _ _ => rfl)) pe_int) (fun _ _ => rfl)))
  (pss_cons (ps_set (i := 4) scTake.nd rfl (.inl rfl) (pe_op op_mod (pe_op op_pow (pe_op op_add (pe_op op_add (pe_ix ix_list (pv 0) pe_int (fun _ _ => rfl)) (pe_op op_mul (pe_op op_mul pe_int (pe_ix ix_list (pv 0) pe_int (fun _ _ => rfl))) (pe_ix ix_list (pv 0) pe_int (fun _ _ => rfl)))) pe_int) pe_int) (pv 3)))
  (pss_one (ps_ret (pe_op op_mod (pe_op op_fdiv (pe_op op_mod (pe_op op_mul (pv 4) (pe_op op_add (pe_op op_mod (pv 4) pe_int) (pe_op op_mul pe_int (pe_ix ix_list (pv 0) pe_int (fun _ _ => rfl))))) pe_int) pe_int) (pv 1)))))))), ?_⟩
  refine ⟨_, rfl, p, _, 0, .int u, rfl, rfl, SqL.of hp, rfl, _, _, rfl, rfl, _, rfl, ite2 (fun c => ?_) (fun c => ?_)⟩
  · have c' : 0 < u := of_decide_eq_true c
    refine ⟨_, rfl, p, _, 0, .int u, rfl, rfl, SqL.of hp, rfl, _, rfl, u, n, rfl, rfl, n0, ?_⟩
    refine ⟨_, rfl, p, _, 0, .int u, rfl, rfl, SqL.of hp, rfl, _, rfl, u, n, rfl, rfl, wide_div (b := 1000) n0 n1 (by decide) (by decide), _, rfl, p, _, 0, 0, rfl, rfl, hp, rfl, _, rfl, ?_⟩
    exact q _ _ (Int.emod_nonneg _ (by omega)) (Int.emod_lt_of_pos _ n0) ⟨_, v, k, upd_same, Int.ediv_nonneg (by omega) (by omega), v0, v1, k0, by omega⟩ But.upd
  · refine ⟨_, rfl, p, _, 2, .int k, rfl, rfl, SqL.of hp, rfl, k, 1, rfl, rfl, _, rfl, p, _, 2, 2, rfl, rfl, hp, rfl, ?_⟩
    generalize hG : upd H p _ = H1
    have hx : H1 p = some (.lst [.int u, .int v, .int (k + 1)]) := by rw [← hG]; exact upd_same
    have bx : But p H H1 := by rw [← hG]; exact But.upd
    refine ⟨(by show 7 ≤ sizeLine; decide), fun l nl => ?_⟩
    generalize hG2 : upd H1 l _ = H2
    have hl : H2 l = some (.lst (prs7.map V.int)) := by rw [← hG2]; exact upd_same
    have hx2 : H2 p = some (.lst [.int u, .int v, .int (k + 1)]) := by rw [← hG2]; exact same_new nl _ _ hx
    have bx2 : But p H H2 := by rw [← hG2]; exact bx.trans (But.new nl)
    have m0 : 0 ≤ (k + 1) % 7 := Int.emod_nonneg _ (by decide)
    have m1 : (k + 1) % 7 < 7 := Int.emod_lt_of_pos _ (by decide)
    obtain ⟨pr, mpr, hpr⟩ := at_int (ns := prs7) m0 (by show _ < ((7 : Nat) : Int); omega)
    obtain ⟨pr0, pr1⟩ := prs7_bd mpr
    refine ⟨_, rfl, p, _, 2, .int (k + 1), rfl, rfl, SqL.of hx2, rfl, _, _, rfl, rfl, (by show (0 : Int) < 7; decide), l, _, _, .int pr, rfl, rfl, SqL.of hl, hpr, ?_⟩
    have b1 : (7919 * (k + 1)) * (k + 1) ≤ (7919 * 1000001) * 1000001 := Int.mul_le_mul (by omega) (by omega) (by omega) (by omega)
    have b0 : 0 ≤ (7919 * (k + 1)) * (k + 1) := Int.mul_nonneg (by omega) (by omega)
    refine ⟨_, rfl, p, _, 1, .int v, rfl, rfl, SqL.of hx2, rfl, _, rfl, p, _, 2, .int (k + 1), rfl, rfl, SqL.of hx2, rfl, _, _, rfl, rfl, .inl ⟨by decide, by decide⟩, _, rfl, p, _, 2, .int (k + 1), rfl, rfl, SqL.of hx2, rfl, _, _, rfl, rfl, .inr ⟨by omega, by omega⟩, _, _, rfl, rfl, _, _, rfl, rfl, _, 3, rfl, rfl, ⟨by decide, by decide, by omega⟩, _, rfl, _, pr, rfl, rfl, pr0, ?_⟩
    have d0 : 0 ≤ (v + 7919 * (k + 1) * (k + 1) + 31) ^ (3 : Int).toNat % pr := Int.emod_nonneg _ (by omega)
    have d1 : (v + 7919 * (k + 1) * (k + 1) + 31) ^ (3 : Int).toNat % pr < pr := Int.emod_lt_of_pos _ pr0
    refine ⟨_, rfl, _, rfl, _, 10007, rfl, rfl, (by show (0 : Int) < 10007; decide), _, rfl, p, _, 2, .int (k + 1), rfl, rfl, SqL.of hx2, rfl, 97, _, rfl, rfl, .inl ⟨by decide, by decide⟩, _, _, rfl, rfl, _, _, rfl, rfl, .inl ⟨Int.lt_of_lt_of_le (by decide) d0, Int.lt_of_lt_of_le d1 (by omega)⟩, _, _, rfl, rfl, (by show (0 : Int) < 2305843009213693907; decide), _, 97, rfl, rfl, ⟨by decide, by decide⟩, _, rfl, _, n, rfl, rfl, n0, ?_⟩
    exact q _ _ (Int.emod_nonneg _ (by omega)) (Int.emod_lt_of_pos _ n0) ⟨u, v, k + 1, hx2, u0, v0, v1, by omega, by omega⟩ bx2
theorem ok_of (M : Bl mg) (F : At K mg "_law_of" sOf ["_law_pot_here", "_law_some"]) {k : Nat} (h : Has P w K mg base k "_law_take" ["_law_pot_here", "_law_many"] spTk7) : Has P w K mg base (k + 1) "_law_of" ["_law_pot_here", "_law_some"] (spO7 K) := by
  obtain ⟨_, _, cTake⟩ := h
  refine Has.by F scOf (fun vs H Q E h => ?_) (fun f cdv A out s H vs Q E hg hr h => ?_)
  · obtain ⟨_, _, _, _, rfl, _⟩ := h
    rfl
  obtain ⟨p, r, xs, c, rfl, hU, c1, nr, hr2, hx, hl, q⟩ := h
  refine ⟨_, (pss_one (ps_ret (pe_ix ix_list (pv 1) (pe_cal cTake hg hr (by rfl) (pa_cons (pv 0) (pa_cons (pe_callB call_len_seq (by rfl) M.len_ (by decide +kernel) (pa_cons (pv 1) pa_nil)) pa_nil))) (fun _ _ => rfl)))), ?_⟩
  have l0 : 0 < xs.length := List.length_pos_iff.mpr hx
  refine ⟨_, rfl, _, rfl, _, rfl, r, xs, rfl, .inl hr2, p, _, c, rfl, hU, c1, by omega, big_lt (by omega) (by omega), fun d H' d0 d1 hU' hb => ?_⟩
  obtain ⟨x, mx, hx2⟩ := at_any (xs := xs) d0 d1
  exact ⟨r, xs, d, x, rfl, rfl, hb.seq nr hr2, hx2, q x H' mx hU' hb⟩
theorem tup_op {H : Hp} {t : Addr} {u : Str} {as : List Int} (n : H t = none) : TrAt K (upd H t (.tup (.str u :: as.map V.int))) (.op u as) (.ref t) := by
  rw [TrAt]
  exact ⟨t, rfl, SqT.of upd_same⟩
/-! ### an instruction -/
theorem ok_plain (M : Bl mg) (F : At K mg "_law_plain" sPlain ["_law_pot_here", "_law_prime", "_law_wide", "_law_words"]) {k : Nat} (h : Has P w K mg base k "_law_of" ["_law_pot_here", "_law_some"] (spO7 K)) (h2 : Has P w K mg base k "_law_take" ["_law_pot_here", "_law_many"] spTk7) :
    Has P w K mg base (k + 1) "_law_plain" ["_law_pot_here", "_law_prime", "_law_wide", "_law_words"] (spPlain K) := by
  obtain ⟨_, _, cOf⟩ := h
  obtain ⟨_, _, cTake⟩ := h2
  refine Has.by F scPlain (fun vs H Q E h => ?_) (fun f cdv A out s H vs Q E hg hr h => ?_)
  · obtain ⟨_, _, _, _, _, _, rfl, _⟩ := h
    rfl
  obtain ⟨u, ws, p, n, wl, cc, rfl, hU, cb, p0, p1, n0, n1, nw, sq, wne, wle, w7, q⟩ := h
  refine ⟨_, (pss_cons (ps_par3 (i := 4) (j := 5) (l := 6) (by rfl) scPlain.nd rfl rfl rfl (by decide) (by decide) (by decide) rfl rfl rfl (pa_cons (pe_cal cOf hg hr (by rfl) (pa_cons (pv 0) (pa_cons (pv 3) pa_nil))) (pa_cons (pe_cal cTake hg hr (by rfl) (pa_cons (pv 0) (pa_cons (pv 2) pa_nil))) (pa_cons (pe_cal cOf hg hr (by rfl) (pa_cons (pv 0) (pa_cons (pe_lst (pa_cons pe_int (pa_cons pe_int (pa_cons (pe_op op_sub (pv 1) pe_int) (pa_cons (pe_cal cTake hg hr (by rfl) (pa_cons (pv 0) (pa_cons (pv 1) pa_nil))) pa_nil))))) pa_nil))) pa_nil))) (by rfl))
  (pss_cons (ps_if (pt_cmpR op_in_seq (pv 4) (pe_tup (pa_cons pe_str (pa_cons pe_str pa_nil))) (by rfl))
    (pss_one (ps_ret (pe_tup (pa_cons (pv 4) (pa_cons (pv 5) (pa_cons (pv 6) pa_nil))))))
    pss_nil)
  (pss_cons (ps_if (pt_cmpR op_in_seq (pv 4) (pe_tup (pa_cons pe_str (pa_cons pe_str pa_nil))) (by rfl))
    (pss_one (ps_ret (pe_tup (pa_cons (pv 4) (pa_cons (pv 5) pa_nil)))))
    pss_nil)
  (pss_cons (ps_if (pt_cmpR op_eq (pv 2) pe_int (nomark _))
    (pss_one (ps_ret (pe_tup (pa_cons pe_str (pa_cons (pv 5) (pa_cons (pv 6) pa_nil))))))
    pss_nil)
  (pss_cons (ps_set (i := 7) scPlain.nd rfl (.inl rfl) (pe_op op_mod (pe_op op_add (pe_op op_add (pv 5) pe_int) (pe_cal cTake hg hr (by rfl) (pa_cons (pv 0) (pa_cons (pe_op op_sub (pv 2) pe_int) pa_nil)))) (pv 2)))
  (pss_one (ps_ret (pe_ifExp (pt_cmpR op_eq (pv 4) pe_str (nomark _)) (pe_tup (pa_cons pe_str (pa_cons (pv 5) (pa_cons (pv 7) (pa_cons (pe_callB (call_max2 rfl) (by rfl) M.max_ (by decide +kernel) (pa_cons pe_int (pa_cons (pv 6) pa_nil))) pa_nil))))) (pe_tup (pa_cons (pv 4) (pa_cons (pv 5) (pa_cons (pv 7) pa_nil)))))))))))), ?_⟩
  refine ⟨_, rfl, _, rfl, u, ws, _, cc, rfl, hU, by omega, nw, sq, (by simpa using wne), (by rw [List.length_map]; exact wle), fun x H1 hx u1 b1 => ?_⟩
  obtain ⟨z, hz, rfl⟩ := List.mem_map.mp hx
  refine ⟨_, rfl, _, rfl, u, n, _, rfl, u1, by omega, by omega, big_lt (by omega) (by omega), fun x H2 x0 x1 u2 b2 => ?_⟩
  refine ⟨_, rfl, _, rfl, p, 1, rfl, rfl, _, rfl, _, rfl, u, p, _, rfl, u2, by omega, by omega, big_lt (by omega) (by omega), fun c3 H3 c30 c31 u3 b3 => ?_⟩
  refine ⟨(by show 4 ≤ sizeLine; decide), fun l nl => ?_⟩
  refine ⟨u, l, _, _, rfl, u3.same (same_new nl), by omega, (ne_of_none (u3.at).choose_spec nl).symm, SqL.of upd_same, (by intro z; cases z), (by show 4 ≤ 1000; decide), fun c H4 hc u4 b4 => ?_⟩
  have bb : But u H H4 := ((b1.trans b2).trans b3).trans ((But.new nl).trans b4)
  obtain ⟨c, rfl, c0, c1⟩ : ∃ c' : Int, c = .int c' ∧ 0 ≤ c' ∧ c' < p := by
    simp only [List.mem_cons, List.not_mem_nil, or_false] at hc
    rcases hc with rfl | rfl | rfl | rfl
    · exact ⟨0, rfl, by omega, by omega⟩
    · exact ⟨1, rfl, by omega, by omega⟩
    · exact ⟨p - 1, rfl, by omega, by omega⟩
    · exact ⟨c3, rfl, c30, c31⟩
  refine ⟨_, _, _, rfl, ?_⟩
  -- set, scale
  refine ⟨_, rfl, (by show 2 ≤ sizeLine; decide), fun t1 nt1 => ?_⟩
  refine ⟨t1, _, rfl, .inr (SqT.of upd_same), rfl, rfl, _, rfl, ite2 (fun i1 => ?_) (fun i1 => ?_)⟩
  · have e := inV2.mp i1
    refine ⟨_, rfl, _, rfl, _, rfl, (by show 3 ≤ sizeLine; decide), fun t nt => ?_⟩
    exact q z [x, c] _ _ (.inl ⟨e, x, c, rfl, x0, x1, c0, c1⟩) (.inl hz) (tup_op (as := [x, c]) nt) ((((u4.same (same_new nt1)).same (same_new nt))).up (by omega)) (bb.trans ((But.new nt1).trans (But.new nt)))
  -- read, write
  refine ⟨_, rfl, (by show 2 ≤ sizeLine; decide), fun t2 nt2 => ?_⟩
  have u6 := (u4.same (same_new (o := .tup [.str "set", .str "scale"]) nt1)).same (same_new (o := .tup [.str "read", .str "write"]) nt2)
  have b6 : But u H _ := bb.trans ((But.new (o := .tup [.str "set", .str "scale"]) nt1).trans (But.new (o := .tup [.str "read", .str "write"]) nt2))
  refine ⟨t2, _, rfl, .inr (SqT.of upd_same), rfl, rfl, _, rfl, ite2 (fun i2 => ?_) (fun i2 => ?_)⟩
  · have e := inV2.mp i2
    refine ⟨_, rfl, _, rfl, (by show 2 ≤ sizeLine; decide), fun t nt => ?_⟩
    exact q z [x] _ _ (.inr (.inl ⟨e, x, rfl, x0, x1⟩)) (.inl hz) (tup_op (as := [x]) nt) ((u6.same (same_new nt)).up (by omega)) (b6.trans (But.new nt))
  have z1 : ¬ (z = "set" ∨ z = "scale") := fun e => i1 (inV2.mpr e)
  have z2 : ¬ (z = "read" ∨ z = "write") := fun e => i2 (inV2.mpr e)
  -- one register
  refine ⟨_, rfl, rfl, _, rfl, ite2 (fun i3 => ?_) (fun i3 => ?_)⟩
  · have e : n = 1 := V.int.inj (of_decide_eq_true i3)
    refine ⟨_, rfl, _, rfl, (by show 3 ≤ sizeLine; decide), fun t nt => ?_⟩
    exact q "scale" [x, c] _ _ (.inl ⟨.inr rfl, x, c, rfl, x0, x1, c0, c1⟩) (.inr rfl) (tup_op (as := [x, c]) nt) ((u6.same (same_new nt)).up (by omega)) (b6.trans (But.new nt))
  have n2 : n ≠ 1 := fun e => i3 (decide_eq_true (congrArg V.int e))
  -- y
  refine ⟨_, rfl, _, _, rfl, rfl, _, rfl, _, rfl, n, 1, rfl, rfl, u, _, _, rfl, u6, by omega, by omega, big_lt (by omega) (by omega), fun d H7 d0 d1 u7 b7 => ?_⟩
  refine ⟨_, _, rfl, rfl, _, rfl, _, n, rfl, rfl, (by show (0 : Int) < n; omega), ?_⟩
  have y0 := Int.emod_nonneg (x + 1 + d) (show n ≠ 0 by omega)
  have y1 := Int.emod_lt_of_pos (x + 1 + d) (show 0 < n by omega)
  have yx : x ≠ (x + 1 + d) % n := fun e => by
    have h := Int.emod_def (x + 1 + d) n
    by_cases g : x + 1 + d < n
    · rw [Int.emod_eq_of_lt (by omega) g] at e
      omega
    · have h2 : (x + 1 + d) % n = x + 1 + d - n := by
        rw [← Int.sub_emod_right]
        exact Int.emod_eq_of_lt (by omega) (by omega)
      omega
  -- add
  refine ⟨_, rfl, rfl, _, rfl, ite2 (fun i4 => ?_) (fun i4 => ?_)⟩
  · have e : z = "add" := V.str.inj (of_decide_eq_true i4)
    refine ⟨_, rfl, _, rfl, _, rfl, _, _, rfl, (by show 4 ≤ sizeLine; decide), fun t nt => ?_⟩
    have g : 1 ≤ (if c > 1 then c else 1) ∧ (if c > 1 then c else 1) < p := by
      split <;> omega
    exact q z [x, (x + 1 + d) % n, if c > 1 then c else 1] _ _ (.inr (.inr (.inr ⟨e, x, _, _, rfl, x0, x1, y0, y1, yx, g.1, g.2⟩))) (.inl hz) (e ▸ tup_op (as := [x, (x + 1 + d) % n, if c > 1 then c else 1]) nt) ((u7.same (same_new nt)).up (by omega)) ((b6.trans b7).trans (But.new nt))
  · have e : z ≠ "add" := fun e => i4 (decide_eq_true (congrArg V.str e))
    have hz7 := w7 z hz
    have e2 : z = "copy" ∨ z = "swap" := by
      simp only [W7, List.mem_cons, List.not_mem_nil, or_false] at hz7
      rcases hz7 with h | h | h | h | h | h | h
      · exact absurd (.inl h) z1
      · exact .inl h
      · exact absurd h e
      · exact absurd (.inr h) z1
      · exact .inr h
      · exact absurd (.inl h) z2
      · exact absurd (.inr h) z2
    refine ⟨_, rfl, _, rfl, _, rfl, (by show 3 ≤ sizeLine; decide), fun t nt => ?_⟩
    exact q z [x, (x + 1 + d) % n] _ _ (.inr (.inr (.inl ⟨e2, x, _, rfl, x0, x1, y0, y1, yx⟩))) (.inl hz) (tup_op (as := [x, (x + 1 + d) % n]) nt) ((u7.same (same_new nt)).up (by omega)) ((b6.trans b7).trans (But.new nt))
end
end K32
set_option Elab.async false
set_option linter.all false
set_option maxRecDepth 100000
set_option pp.maxSteps 500
set_option pp.deepTerms.threshold 8
set_option pp.deepTerms false
namespace K32
open PySem PySem.Spec PyProof.Rows L2 Lj
/-! ### what is drawn: loops in one another, then plain steps -/
/-- m loops, each alone in the one around it -/
def Nst : Nat → List Tr → Prop
  | 0, b => b = []
  | m + 1, b => ∃ (k : Int) (b' : List Tr), 0 ≤ k ∧ k ≤ 10 ^ 18 ∧ b = [.loop k b'] ∧ Nst m b'
theorem nst_wf : ∀ {m : Nat} {b : List Tr} {n : Nat}, Nst m b → m ≤ n → wfs b n
  | 0, b, n, h, _ => by
    cases (show b = [] from h)
    rw [wfs]
    trivial
  | m + 1, b, n, h, l => by
    obtain ⟨k, b', k0, k1, rfl, h⟩ := h
    obtain ⟨n, rfl⟩ : ∃ n', n = n' + 1 := ⟨n - 1, by omega⟩
    rw [wfs, wfs, Tr.wf]
    refine ⟨⟨k0, k1, ?_, nst_wf h (by omega)⟩, trivial⟩
    cases m with
    | zero =>
      cases (show b' = [] from h)
      decide
    | succ m =>
      obtain ⟨_, _, _, _, rfl, _⟩ := h
      exact Nat.le_trans (Nat.le_refl 1) (by decide)
theorem nst_lens : ∀ {m : Nat} {b : List Tr}, Nst m b → lens b = 0
  | 0, b, h => by
    cases (show b = [] from h)
    rfl
  | m + 1, b, h => by
    obtain ⟨k, b', k0, k1, rfl, h⟩ := h
    rw [lens, lens, Tr.len, nst_lens h, Int.mul_zero]
    rfl
theorem nst_inns : ∀ {m : Nat} {b : List Tr}, Nst m b → szs b = (m : Int)
  | 0, b, h => by
    cases (show b = [] from h)
    rfl
  | m + 1, b, h => by
    obtain ⟨k, b', k0, k1, rfl, h⟩ := h
    have ih := nst_inns h
    unfold szs at ih ⊢
    rw [inns, inns, Tr.inn]
    show ((1 : Nat) : Int) + _ = _
    omega
theorem nst_deps : ∀ {m : Nat} {b : List Tr}, Nst m b → deps b = (m : Int)
  | 0, b, h => by
    cases (show b = [] from h)
    rfl
  | m + 1, b, h => by
    obtain ⟨k, b', k0, k1, rfl, h⟩ := h
    have ih := nst_deps h
    rw [deps, deps, Tr.dep, ih, if_pos (by omega)]
    omega
theorem nst_sils : ∀ {m : Nat} {b : List Tr}, Nst m b → Nst m (sils b)
  | 0, b, h => by
    cases (show b = [] from h)
    rfl
  | m + 1, b, h => by
    obtain ⟨k, b', k0, k1, rfl, h⟩ := h
    exact ⟨k, sils b', k0, k1, by rw [sils_one, Tr.sil], nst_sils h⟩
theorem nst_len1 {m : Nat} {b : List Tr} (h : Nst m b) : b.length ≤ 1 := by
  cases m with
  | zero =>
    cases (show b = [] from h)
    decide
  | succ m =>
    obtain ⟨_, _, _, _, rfl, _⟩ := h
    exact Nat.le_refl 1
def OpsG (p n : Int) (wl : List Str) (b : List Tr) : Prop := ∀ t ∈ b, ∃ z as, t = .op z as ∧ DrG p n wl z as
section
variable {p n : Int} {wl : List Str} {a b : List Tr} {m : Nat}
theorem ops_wf : ∀ {b : List Tr} {n' : Nat}, OpsG p n wl b → wfs b n'
  | [], _, _ => by
    rw [wfs]
    trivial
  | t :: r, n', h => by
    obtain ⟨z, as, rfl, g⟩ := h t List.mem_cons_self
    rw [wfs, Tr.wf]
    exact ⟨fun e => by have := g.1.w7; rw [e] at this; revert this; decide, ops_wf fun t m => h t (List.mem_cons_of_mem _ m)⟩
theorem ops_inns : ∀ {b : List Tr}, OpsG p n wl b → inns b = 0
  | [], _ => rfl
  | t :: r, h => by
    obtain ⟨z, as, rfl, g⟩ := h t List.mem_cons_self
    rw [inns, Tr.inn, ops_inns fun t m => h t (List.mem_cons_of_mem _ m)]
    rfl
theorem ops_deps : ∀ {b : List Tr}, OpsG p n wl b → deps b = 0
  | [], _ => rfl
  | t :: r, h => by
    obtain ⟨z, as, rfl, g⟩ := h t List.mem_cons_self
    rw [deps, Tr.dep, ops_deps fun t m => h t (List.mem_cons_of_mem _ m)]
    rfl
theorem inns_app2 : ∀ a b : List Tr, inns (a ++ b) = inns a + inns b
  | [], b => by
    rw [List.nil_append, inns]
    omega
  | t :: a, b => by
    rw [List.cons_append, inns, inns, inns_app2 a b]
    omega
theorem drawn_szs (h : Nst m a) (g : OpsG p n wl b) : szs (a ++ b) = ((m + b.length : Nat) : Int) := by
  have e := nst_inns h
  unfold szs at e ⊢
  rw [inns_app2, ops_inns g, List.length_append]
  omega
theorem drawn_deps (h : Nst m a) (g : OpsG p n wl b) : deps (a ++ b) = (m : Int) := by
  cases m with
  | zero =>
    cases (show a = [] from h)
    rw [List.nil_append, ops_deps g]
    rfl
  | succ m =>
    have e := nst_deps h
    obtain ⟨k, b', k0, k1, rfl, h⟩ := h
    rw [deps, deps] at e
    rw [List.cons_append, List.nil_append, deps, ops_deps g]
    exact e
theorem drawn_ok (h : Nst m a) (g : OpsG p n wl b) (m4 : m ≤ 4) (l : b.length ≤ 100) : okB 5 (a ++ b) :=
  ⟨wfs_app (nst_wf h m4) (ops_wf g), by rw [List.length_append]; have := nst_len1 h; omega⟩
theorem ops_sils : ∀ {b : List Tr}, OpsG p n wl b → (∀ t ∈ sils b, ∃ z as, t = .op z as ∧ DrG p n wl z as ∧ z ≠ "write")
  | [], _, t, ht => by
    rw [sils] at ht
    cases ht
  | t0 :: r, h, t, ht => by
    obtain ⟨z, as, rfl, g⟩ := h t0 List.mem_cons_self
    rw [sils, Tr.sil] at ht
    rcases List.mem_append.mp ht with e | e
    · by_cases c : z = "write"
      · rw [if_pos c] at e
        cases e
      · rw [if_neg c] at e
        exact ⟨z, as, List.mem_singleton.mp e, g, c⟩
    · exact ops_sils (fun t m => h t (List.mem_cons_of_mem _ m)) t e
theorem drawn_plain {p : Int} {N : Nat} (h : Nst m a) (g : OpsG p (N : Int) wl b) (nr : ∀ z ∈ wl, z ≠ "read") : Plain p N (sils (a ++ b)) := by
  intro t ht
  rw [sils_app] at ht
  rcases List.mem_append.mp ht with e | e
  · have h2 := nst_sils h
    cases m with
    | zero =>
      rw [show sils a = [] from h2] at e
      cases e
    | succ m =>
      obtain ⟨k, b', k0, k1, e2, h3⟩ := h2
      rw [e2] at e
      refine .inr ⟨k, b', List.mem_singleton.mp e, ?_⟩
      rw [Tr.len, nst_lens h3, Int.mul_zero]
  · obtain ⟨z, as, rfl, ⟨g1, g2⟩, nw⟩ := ops_sils g t e
    refine .inl ⟨z, as, rfl, g1, fun c => ?_, nw⟩
    rcases g2 with g2 | g2
    · exact nr z g2 c
    · rw [c] at g2
      exact absurd g2 (by decide)
end
def spNest (K : PySem.W.Frag) : Sp := fun vs H Q _ => ∃ (u rs : Addr) (m c : Nat) (rl : List Int), vs = [.ref u, .int (m : Int), .ref rs] ∧ Ur c H u ∧ c ≤ 900000 ∧ m ≤ 4 ∧ rs ≠ u ∧ SqL K H rs (rl.map V.int) ∧ rl ≠ [] ∧ rl.length ≤ 1000 ∧ (∀ k ∈ rl, 0 ≤ k ∧ k ≤ 10 ^ 18) ∧
  ∀ b v H', Nst m b → BodyAt K H' b v → Ur (c + 4) H' u → But u H H' → Q v H'
section
variable {P : Program} {w : World} {K : PySem.W.Frag} {mg : Str → Option Value} {base : Heap}
theorem ok_nested (M : Bl mg) (F : At K mg "_law_nested" sNested ["_law_pot_here", "_law_deep", "_law_rounds"]) {k : Nat} (h : Has P w K mg base k "_law_of" ["_law_pot_here", "_law_some"] (spO7 K)) : Has P w K mg base (k + 1) "_law_nested" ["_law_pot_here", "_law_deep", "_law_rounds"] (spNest K) := by
  obtain ⟨_, _, cOf⟩ := h
  refine Has.by F scNested (fun vs H Q E h => ?_) (fun f cdv A out s H vs Q E hg hr h => ?_)
  · obtain ⟨_, _, _, _, _, rfl, _⟩ := h
    rfl
  obtain ⟨u, rs, m, c, rl, rfl, hU, cb, m4, nr, sqr, rne, rle, rb, q⟩ := h
  refine ⟨_, (pss_cons (ps_set (i := 3) scNested.nd rfl (.inl rfl) (pe_tup pa_nil))
  (pss_cons (ps_for PassesOwn.never rfl (pi_range1 (by rfl) M.range_ (pa_cons (pv 1) pa_nil)) (pg_name (i := 4) scNested.nd rfl (.inl rfl))
    (pss_one (ps_set (i := 3) scNested.nd rfl (.inl rfl) (pe_tup (pa_cons (pe_tup (pa_cons pe_str (pa_cons (pe_cal cOf hg hr (by rfl) (pa_cons (pv 0) (pa_cons (pv 2) pa_nil))) (pa_cons (pv 3) pa_nil)))) pa_nil)))))
  (pss_one (ps_ret (pv 3))))), ?_⟩
  refine ⟨(by show 0 ≤ sizeLine; decide), fun t0 nt0 => ?_⟩
  have s0 := same_new (o := .tup []) nt0
  refine ⟨_, rfl, _, rfl, by omega, by omega, ?_⟩
  refine for_range (lo := 0) (n := m) (fun i σ H' => ∃ y b v, σ = [some (.ref u), some (.int (m : Int)), some (.ref rs), some v, y] ∧ Nst i b ∧ BodyAt K H' b v ∧ Ur (c + i) H' u ∧ But u H H') ⟨_, [], _, rfl, rfl, ⟨t0, [], rfl, SqT.of upd_same, .nil⟩, (hU.same s0).up (by omega), But.same s0⟩ ?_ ?_
  · rintro i σ H1 hi ⟨y, b, v, rfl, hn, hb, u1, b1⟩
    refine ⟨_, rfl, _, rfl, u, rs, _, c + i, rfl, u1, by omega, nr, b1.seq nr sqr, (by simpa using rne), (by rw [List.length_map]; exact rle), fun x H2 hx u2 b2 => ?_⟩
    obtain ⟨k, hk, rfl⟩ := List.mem_map.mp hx
    refine ⟨_, rfl, (by show 3 ≤ sizeLine; decide), fun t nt => ?_⟩
    refine ⟨(by show 1 ≤ sizeLine; decide), fun t2 nt2 => ?_⟩
    obtain ⟨k0, k1⟩ := rb k hk
    have s3 := same_new (o := .tup [.str "loop", .int k, v]) nt
    have s4 := same_new (o := .tup [.ref t]) nt2
    have hb2 := hb.kt ((u1.kt b2).trans (Kt.same (s3.trans s4)))
    refine ⟨_, [.loop k b], .ref t2, rfl, ⟨k, b, k0, k1, rfl, hn⟩, ⟨t2, [.ref t], rfl, SqT.of upd_same, ?_⟩, ((u2.same s3).same s4).up (by omega), b1.trans (b2.trans (But.same (s3.trans s4)))⟩
    obtain ⟨cb', us, rfl, sq, tr⟩ := hb2
    rw [TrsAt]
    refine ⟨_, [], rfl, ?_, TrsAt.nil⟩
    rw [TrAt]
    exact ⟨t, cb', us, rfl, SqT.of (s4 _ _ upd_same), sq, tr⟩
  · rintro σ H1 ⟨y, b, v, rfl, hn, hb, u1, b1⟩
    exact ⟨_, rfl, q b v H1 hn hb (u1.up (by omega)) b1⟩
end
end K32
set_option Elab.async false
set_option linter.all false
set_option maxRecDepth 100000
set_option pp.maxSteps 500
set_option pp.deepTerms.threshold 8
set_option pp.deepTerms false
namespace K32
open PySem PySem.Spec PyProof.Rows L2 Lj
/-! ### what a call refuses -/
structure ErrsR (P : Program) (K : PySem.W.Frag) (mg : Str → Option Value) (CJ CB CL fL CD fD : Addr) : Prop where
  TL : ErrTxt P K mg "TooLong" "size" CL fL
  TD : ErrTxt P K mg "TooDeep" "depth" CD fD
  gJ : mg "JournalError" = some (.ref CJ)
  gB : mg "BadProgram" = some (.ref CB)
  exL : PySem.W.exmOne K (.ref CL) (.ref CJ) = some true
  exD : PySem.W.exmOne K (.ref CD) (.ref CJ) = some true
  xcL : ExcC K CL
  xcD : ExcC K CD
  LB : PySem.W.kitOne K (.ref CL) (.ref CB) = some false
  DB : PySem.W.kitOne K (.ref CD) (.ref CB) = some false
  LD : PySem.W.kitOne K (.ref CL) (.ref CD) = some false
  DL : PySem.W.kitOne K (.ref CD) (.ref CL) = some false
theorem kit_self (K : PySem.W.Frag) (C : Addr) : PySem.W.kitOne K (.ref C) (.ref C) = some true := by
  unfold PySem.W.kitOne
  rw [if_pos (beq_self_eq_true _)]
/-- nothing is let out, or one of the two errors -/
def TTref (CL CD : Addr) : (XK → Hp → VK → Prop) → Hp → VK → Prop := fun tl H Q => ∀ (E' : XK) (Q' : VK), (∀ v H', Q .non H' → Q' v H') →
  (∀ dd m H', H' dd = some (.xd [("size", .int m)]) → (∀ t H'', Same H' H'' → H'' t = some (.tup [.str "long", .int m]) → Q (.ref t) H'') → E' (.ref CL) (some dd) H') →
  (∀ dd m H', H' dd = some (.xd [("depth", .int m)]) → (∀ t H'', Same H' H'' → H'' t = some (.tup [.str "deep", .int m]) → Q (.ref t) H'') → E' (.ref CD) (some dd) H') → tl E' H Q'
theorem refused_gives {X : Cx} {g : Addr} {cdg : Value} {q : Str} (M : Bl X.mg) {CJ CB CL fL CD fD : Addr} (R : ErrsR X.prog X.K X.mg CJ CB CL fL CD fD) : GivesG X ["_law_call", "_law_caught", "error"] "_law_refused" (defScope sRefused) g cdg (defBody sRefused) "_law_call" q (TTref CL CD) := by
  intro f c' s H Q tl act hc h
  have TL := R.TL
  have TD := R.TD
  refine ⟨_, (pss_cons (ps_set (i := 1) scRefused.nd rfl (.inl rfl) pe_non)
  (pss_cons (ps_try_keep (X := (cxOf C8.CX0 X.prog X.w X.K X.mg X.base ["_law_call", "_law_caught", "error"] "_law_refused" (defScope sRefused) g cdg X.A X.stack s H C8.E0).nox) (i := 2) (tb := fun W D σ H => σ[0]? = some (some (.ref f)) ∧ H c' = some (LamX.CodeO c' q) ∧ tl (WE W σ) H fun _ H' => D.nx σ H') rfl rfl rfl scRefused.nd rfl rfl ⟨by rfl, by decide, .inl R.gJ⟩ takes0 (fun W pn xe tk _ => pss_one (ps_expr (act W pn xe _ _ tk))) (fun a pn => pss_one (ps_set (i := 1) scRefused.nd rfl (.inl rfl) (pv 2))))
  (pss_cons (ps_if (pt_cmpR op_isN (pv 1) pe_non (nomark _))
    (pss_one (ps_ret pe_non))
    pss_nil)
  (pss_cons (ps_if (PW.pt (pw_or (pt_val (pe_callB (call_isX (K := X.K) rfl) (by rfl) M.isinstance_ (by decide +kernel) (pa_cons (pv 1) (pa_cons (pe_glob (v := .ref CB) (by rfl) R.gB rfl) pa_nil)))) (pw_or1 (pt_cmpR op_eq (pe_callB (call_isX (K := X.K) rfl) (by rfl) M.isinstance_ (by decide +kernel) (pa_cons (pv 1) (pa_cons (pe_glob (v := .ref CL) (by rfl) TL.gC rfl) pa_nil))) (pe_callB (call_isX (K := X.K) rfl) (by rfl) M.isinstance_ (by decide +kernel) (pa_cons (pv 1) (pa_cons (pe_glob (v := .ref CD) (by rfl) TD.gC rfl) pa_nil))) (nomark _)))))
    (pss_one (ps_ret (pe_tup (pa_cons pe_str (pa_cons pe_int pa_nil)))))
    pss_nil)
  (pss_one (ps_ret (pe_ifExp (pt_val (pe_callB (call_isX (K := X.K) rfl) (by rfl) M.isinstance_ (by decide +kernel) (pa_cons (pv 1) (pa_cons (pe_glob (v := .ref CL) (by rfl) TL.gC rfl) pa_nil)))) (pe_tup (pa_cons pe_str (pa_cons (pe_exvF (pv 1)) pa_nil))) (pe_tup (pa_cons pe_str (pa_cons (pe_exvF (pv 1)) pa_nil)))))))))), ?_⟩
  refine ⟨rfl, hc, h _ _ (fun v H' q => ?_) (fun dd m H1 hd q => ?_) (fun dd m H1 hd q => ?_)⟩
  · exact ⟨_, rfl, rfl, _, rfl, iteT q⟩
  · refine ⟨true, R.exL, fun _ a na => ?_, fun z => nomatch z⟩
    have hd2 : (upd H1 a (exv a (.ref CL) (some dd))) dd = some (.xd [("size", .int m)]) := by
      rw [upd_ne (ne_of_none hd na)]
      exact hd
    have sE := same_new (o := exv a (.ref CL) (some dd)) na
    have hasd : ∀ d', some dd = some d' → ∃ fs, (upd H1 a (exv a (.ref CL) (some dd))) d' = some (.xd fs) := fun d' e => by
      cases e
      exact ⟨_, hd2⟩
    have he := upd_same (H := H1) (a := a) (o := exv a (.ref CL) (some dd))
    generalize upd H1 a (exv a (.ref CL) (some dd)) = H2 at hd2 sE hasd he
    refine ⟨_, rfl, ?_⟩
    refine ⟨_, rfl, rfl, _, rfl, iteF ?_⟩
    refine ⟨_, rfl, a, CL, some dd, _, _, false, rfl, he, hasd, R.xcL, .own CB, R.LB, _, rfl, iteF ?_⟩
    refine ⟨_, rfl, a, CL, some dd, _, _, true, rfl, he, hasd, R.xcL, .own CL, (kit_self X.K CL), _, rfl, a, CL, some dd, _, _, false, rfl, he, hasd, R.xcL, .own CD, R.LD, rfl, _, rfl, iteF ?_⟩
    refine ⟨_, rfl, a, CL, some dd, _, _, true, rfl, he, hasd, R.xcL, .own CL, (kit_self X.K CL), _, rfl, iteT ?_⟩
    refine ⟨_, rfl, a, CL, dd, _, .int m, rfl, ⟨TL.ga, TL.gg, TL.exC, TL.hdC⟩, TL.noN, he, hd2, by simp [List.lookup], (by show 2 ≤ sizeLine; decide), fun t nt => ?_⟩
    exact q t _ (sE.trans (same_new nt)) upd_same
  · refine ⟨true, R.exD, fun _ a na => ?_, fun z => nomatch z⟩
    have hd2 : (upd H1 a (exv a (.ref CD) (some dd))) dd = some (.xd [("depth", .int m)]) := by
      rw [upd_ne (ne_of_none hd na)]
      exact hd
    have sE := same_new (o := exv a (.ref CD) (some dd)) na
    have hasd : ∀ d', some dd = some d' → ∃ fs, (upd H1 a (exv a (.ref CD) (some dd))) d' = some (.xd fs) := fun d' e => by
      cases e
      exact ⟨_, hd2⟩
    have he := upd_same (H := H1) (a := a) (o := exv a (.ref CD) (some dd))
    generalize upd H1 a (exv a (.ref CD) (some dd)) = H2 at hd2 sE hasd he
    refine ⟨_, rfl, ?_⟩
    refine ⟨_, rfl, rfl, _, rfl, iteF ?_⟩
    refine ⟨_, rfl, a, CD, some dd, _, _, false, rfl, he, hasd, R.xcD, .own CB, R.DB, _, rfl, iteF ?_⟩
    refine ⟨_, rfl, a, CD, some dd, _, _, false, rfl, he, hasd, R.xcD, .own CL, R.DL, _, rfl, a, CD, some dd, _, _, true, rfl, he, hasd, R.xcD, .own CD, (kit_self X.K CD), rfl, _, rfl, iteF ?_⟩
    refine ⟨_, rfl, a, CD, some dd, _, _, false, rfl, he, hasd, R.xcD, .own CL, R.DL, _, rfl, iteF ?_⟩
    refine ⟨_, rfl, a, CD, dd, _, .int m, rfl, ⟨TD.ga, TD.gg, TD.exC, TD.hdC⟩, TD.noN, he, hd2, by simp [List.lookup], (by show 2 ≤ sizeLine; decide), fun t nt => ?_⟩
    exact q t _ (sE.trans (same_new nt)) upd_same
end K32
set_option Elab.async false
set_option linter.all false
set_option maxRecDepth 100000
set_option pp.maxSteps 500
set_option pp.deepTerms.threshold 8
set_option pp.deepTerms false
namespace K32
open PySem PySem.Spec PyProof.Rows L2 Lj
section
variable {P : Program} {w : World} {K : PySem.W.Frag} {mg : Str → Option Value} {base : Heap}
def rot3 {α : Type} (us ws : List α) : List α := match us, ws with
  | [], [a, b, c] => [c, a, b]
  | _, _ => []
theorem kb_bw {f : Addr} {fd : FuncData} (F : Fun K "backward" "backward" sBackward f fd) : KBinds K fd ["p", "n", "program"] ["n", "program", "p"] rot3 rot3 := by
  obtain ⟨oc, od, kV, doc, pm, an, cdv, ct, osl, rfl, lk, hcd⟩ := F.ex
  refine ⟨fun s us ws _ hl => ?_, fun {vs us zs ws} r rz => ?_⟩
  · match us, ws, hl with
    | [], [_, _, _], _ => exact .of_eq rfl
  · cases r with
    | nil =>
      cases rz with
      | nil => exact .nil
      | cons a r => cases r with
        | nil => exact .nil
        | cons b r => cases r with
          | nil => exact .nil
          | cons c r => cases r with
            | nil => exact .cons c (.cons a (.cons b .nil))
            | cons d r => exact .nil
    | cons a r => exact .nil
def qR : Str := (envOfC "_law_right" (defScope sRight) 0 0 .none).qual ++ "<lambda>"
def prs3 : List Int := [2, 5, 10007]
def wdsN : List Str := ["set", "copy", "add", "scale", "swap", "write"]
def rdsN : List Int := [0, 1, 2, 10 ^ 18]
def spRtT (T : Addr) : Sp := fun vs H Q _ => ∃ u : Addr, vs = [.ref u] ∧ Ur 0 H u ∧ LamX.Tabs [(T, qR)] H ∧ ∀ H', ButN u H H' → LamX.Tabs [(T, qR)] H' → Q (.bl true) H'
/-- what is due, as data -/
def dueD (L D : Int) : PyData := if L > 40 then .tuple [.str "long", .int L] else if D > 2 then .tuple [.str "deep", .int D] else .none
def DueAt (K : PySem.W.Frag) (H : Hp) (v : V) (d : PyData) : Prop := (v = .non ∧ d = .none) ∨ ∃ (t : Addr) (z : Str) (i : Int), v = .ref t ∧ SqT K H t [.str z, .int i] ∧ d = .tuple [.str z, .int i] ∧ (z = "long" ∨ z = "deep") ∧ 0 ≤ i ∧ i ≤ 100
theorem DueAt.kt {H H' : Hp} {v : V} {d : PyData} (h : DueAt K H v d) (k : Kt H H') : DueAt K H' v d := by
  rcases h with h | ⟨t, z, i, e, sq, r⟩
  · exact .inl h
  · exact .inr ⟨t, z, i, e, k.sq sq, r⟩
theorem DueAt.dp {H : Hp} {v : V} {d : PyData} (h : DueAt K H v d) : Dp K H v d := by
  rcases h with ⟨rfl, rfl⟩ | ⟨t, z, i, rfl, sq, rfl, _⟩
  · exact .non
  · exact .tup sq (.cons (.str _) (.cons (.int _) .nil))
theorem DueAt.sho {H : Hp} {v : V} {d : PyData} (h : DueAt K H v d) : d.showable = true ∧ d.hasDict = false ∧ d.depth ≤ 64 ∧ d.shown.length ≤ sizeLine := by
  rcases h with ⟨rfl, rfl⟩ | ⟨t, z, i, rfl, sq, rfl, hz, i0, i1⟩
  · obtain ⟨a, b, c, l⟩ := leaf_none
    exact ⟨a, b, by omega, Nat.le_trans l (by rw [sizeLine_eq]; decide)⟩
  · obtain ⟨a, b, c, l⟩ := leaf_tup (ds := [.str z, .int i]) (fun d m => by
      simp only [List.mem_cons, List.not_mem_nil, or_false] at m
      rcases m with rfl | rfl
      · refine ⟨by rw [PyData.showable], by rw [PyData.hasDict], by rw [PyData.depth], ?_⟩
        rw [PyData.shown]
        rcases hz with rfl | rfl <;> decide +kernel
      · exact leaf_int (log_of (k := 10) (by omega) (by decide) (by decide))) (by show 2 ≤ 8000; decide)
    exact ⟨a, b, by omega, Nat.le_trans l (by rw [sizeLine_eq]; show 1930 * 2 + 100 ≤ 16777216; decide)⟩
theorem bw_out {CL CD : Addr} {p : Int} {N : Nat} {v : V} {b : List Tr} {H : Hp} (hB : BodyAt K H b v) (ok : okB 5 b) (pl : Plain p N (sils b)) (bl : b.length ≤ 100) (pr : Prm p) (n0 : 0 < N) (n8 : N ≤ 80) (z1 : szs b ≤ 100) (d1 : deps b ≤ 100) {Q : VK}
    (h : ∀ v' H', DueAt K H' v' (dueD (szs b) (deps b)) → Same H H' → Q v' H') {E' : XK} {Q' : VK} (a : ∀ v H', Q .non H' → Q' v H')
    (bL : ∀ dd m H', H' dd = some (.xd [("size", .int m)]) → (∀ t H'', Same H' H'' → H'' t = some (.tup [.str "long", .int m]) → Q (.ref t) H'') → E' (.ref CL) (some dd) H')
    (bD : ∀ dd m H', H' dd = some (.xd [("depth", .int m)]) → (∀ t H'', Same H' H'' → H'' t = some (.tup [.str "deep", .int m]) → Q (.ref t) H'') → E' (.ref CD) (some dd) H') : spBw K CL CD [.int p, .int (N : Int), v] H Q' E' := by
  refine ⟨p, N, v, b, rfl, hB, ok, fun c d H' s nd hd => ?_, fun c1 c2 d H' s nd hd => ?_, fun c1 c2 => ⟨pl, bl, pr, n0, n8, fun H' v' s => ?_⟩⟩
  · refine bL d _ H' hd fun t H'' s' ht => h _ _ (.inr ⟨t, _, _, rfl, SqT.of ht, ?_, .inl rfl, by omega, z1⟩) (s.trans s')
    rw [dueD, if_pos c]
  · refine bD d _ H' hd fun t H'' s' ht => h _ _ (.inr ⟨t, _, _, rfl, SqT.of ht, ?_, .inr rfl, by omega, d1⟩) (s.trans s')
    rw [dueD, if_neg (by omega), if_pos c2]
  · refine a v' H' (h _ _ (.inl ⟨rfl, ?_⟩) s)
    rw [dueD, if_neg (by omega), if_neg (by omega)]
theorem bw_tt {CL CD : Addr} {p : Int} {N : Nat} {v : V} {b : List Tr} {H : Hp} {te : XK → Hp → VK → Prop} (ht : ∀ E Q, spBw K CL CD [.int p, .int (N : Int), v] H Q E → te E H Q) (hB : BodyAt K H b v) (ok : okB 5 b) (pl : Plain p N (sils b)) (bl : b.length ≤ 100) (pr : Prm p) (n0 : 0 < N) (n8 : N ≤ 80) (z1 : szs b ≤ 100) (d1 : deps b ≤ 100) {Q : VK}
    (h : ∀ v' H', DueAt K H' v' (dueD (szs b) (deps b)) → Same H H' → Q v' H') : TTref CL CD te H Q := fun _ _ a bL bD => ht _ _ (bw_out hB ok pl bl pr n0 n8 z1 d1 h a bL bD)
theorem Ur.extN {c : Nat} {p : Addr} {H H' : Hp} (b : LamX.ExtN H H') (h : Ur c H p) : Ur c H' p := by
  obtain ⟨u, v, k, e, r⟩ := h
  exact ⟨u, v, k, b _ _ e (fun _ z => nomatch z), r⟩
theorem rCatA_mk {H : Hp} {a b : Addr} {xs ys : List V} {Q : VK} (ha : SqT K H a xs) (hb : SqT K H b ys) (hz : xs.length + ys.length ≤ sizeLine) (h : ∀ v H', (∃ c, v = .ref c ∧ SqT K H' c (xs ++ ys)) → Same H H' → Q v H') : rCatA K (.ref a) (.ref b) H Q :=
  ⟨a, b, xs, ys, rfl, rfl, ha, hb, hz, fun e => h _ _ ⟨b, rfl, by rw [e]; exact hb⟩ (Same.refl _), fun _ e => h _ _ ⟨a, rfl, by rw [e, List.append_nil]; exact ha⟩ (Same.refl _), fun _ _ p np => h _ _ ⟨p, rfl, SqT.of upd_same⟩ (same_new np)⟩
set_option maxHeartbeats 8000000 in
theorem ok_right (M : Bl mg) (F : At K mg "_law_right" sRight ["_law_pot_here"]) (FB : At K mg "backward" sBackward ["p", "n", "program"]) (FRf : At K mg "_law_refused" sRefused ["_law_call"]) {c T : Addr} (hcd : ∀ f fd, mg "_law_right" = some (.ref f) → Fun K "_law_right" "_law_right" sRight f fd → fd.code = .ref c) (TB : LamX.TabB base mg c T)
    {CJ CB CL fL CD fD : Addr} (R : ErrsR P K mg CJ CB CL fL CD fD) {k : Nat} (h1 : Has P w K mg base (k + 2) "_law_of" ["_law_pot_here", "_law_some"] (spO7 K)) (h2 : Has P w K mg base (k + 2) "_law_take" ["_law_pot_here", "_law_many"] spTk7)
    (h3 : Has P w K mg base (k + 2) "_law_nested" ["_law_pot_here", "_law_deep", "_law_rounds"] (spNest K)) (h4 : Has P w K mg base (k + 2) "_law_plain" ["_law_pot_here", "_law_prime", "_law_wide", "_law_words"] (spPlain K))
    (h5 : HasE P w K mg base k "backward" ["p", "n", "program"] (spBw K CL CD)) : Has P w K mg base (k + 3) "_law_right" ["_law_pot_here"] (spRtT T) := by
  obtain ⟨_, _, cOf⟩ := h1
  obtain ⟨_, _, cTake⟩ := h2
  obtain ⟨_, _, cNested⟩ := h3
  obtain ⟨_, _, cPlain⟩ := h4
  obtain ⟨_, _, cBw⟩ := h5
  have kBw := kb_bw (cBw.text FB)
  obtain ⟨fRf, fdRf, FnRf, bRf, gRf⟩ := FRf
  have kRf := FnRf.kp
  obtain ⟨_, _, _, _, _, _, _, _, _, rfl, lRf, cRf⟩ := FnRf.ex
  refine Has.byC F hcd scRight (fun vs H Q E h => ?_) (fun f A out s H vs Q E hg hr h => ?_)
  · obtain ⟨_, rfl, _⟩ := h
    rfl
  obtain ⟨u, rfl, hU, hT, q⟩ := h
  refine ⟨_, (pss_cons (ps_asg (pe_tup (pa_cons (pe_cal cOf hg hr (by rfl) (pa_cons (pv 0) (pa_cons (pe_lst (pa_cons pe_int (pa_cons pe_int (pa_cons pe_int pa_nil)))) pa_nil))) (pa_cons (pe_op op_add pe_int (pe_cal cTake hg hr (by rfl) (pa_cons (pv 0) (pa_cons pe_int pa_nil)))) pa_nil))) (pg_tup rfl (pgs_cons (pg_name (i := 7) scRight.nd rfl (.inr rfl)) (pgs_cons (pg_name (i := 8) scRight.nd rfl (.inr rfl)) pgs_nil))))
  (pss_cons (ps_for PassesOwn.never rfl (pi_range1 (by rfl) M.range_ (pa_cons pe_int pa_nil)) (pg_name (i := 1) scRight.nd rfl (.inl rfl))
    (pss_cons (ps_par (i := 2) (j := 3) (by rfl) scRight.nd rfl rfl (by decide) rfl rfl (pa_cons (pe_cal cTake hg hr (by rfl) (pa_cons (pv 0) (pa_cons pe_int pa_nil))) (pa_cons (pe_op op_add pe_int (pe_cal cTake hg hr (by rfl) (pa_cons (pv 0) (pa_cons pe_int pa_nil)))) pa_nil)) (by rfl))
  (pss_cons (ps_set (i := 6) scRight.nd rfl (.inr rfl) (pe_cal cNested hg hr (by rfl) (pa_cons (pv 0) (pa_cons (pv 2) (pa_cons (pe_lst (pa_cons pe_int (pa_cons pe_int (pa_cons pe_int (pa_cons (pe_op op_pow pe_int pe_int) pa_nil))))) pa_nil)))))
  (pss_cons (ps_set (i := 4) scRight.nd rfl (.inr rfl) (pe_lst (pa_cons pe_str (pa_cons pe_str (pa_cons pe_str (pa_cons pe_str (pa_cons pe_str (pa_cons pe_str pa_nil))))))))
  (pss_cons (ps_set (i := 6) scRight.nd rfl (.inr rfl) (pe_op op_catA (pv 6) (pe_callTy call_tuple_of (by rfl) M.tuple_ (by decide +kernel) (pa_cons (pe_lc (own := [("_law_at", 9)]) (g := gName 9) (by rfl) scRight.nd (pi_range1 (by rfl) M.range_ (pa_cons (pe_op op_sub (pv 3) (pv 2)) pa_nil)) (blkOk_by (own := [("_law_at", 9)]) (N := ["_law_pot_here", "_law_turn", "_law_deep", "_law_many", "_law_words", "_law_due", "_law_found", "_law_prime", "_law_wide", "_law_at"]) (sc := defScope sRight) (by decide +kernel)) (fun _ _ _ _ _ => (pg_name (i := 9) scRight.nd rfl (.inl rfl))) (fun _ _ _ _ _ => pts_nil) (fun _ _ _ _ _ => (pe_cal cPlain hg hr (by rfl) (pa_cons (pv 0) (pa_cons (pv 7) (pa_cons (pv 8) (pa_cons (pv 4) pa_nil))))))) pa_nil))))
  (pss_cons (ps_set (i := 5) scRight.nd rfl (.inl rfl) pe_non)
  (Evl.pss_cut (ps_if (pt_cmpR op_gt (pv 3) pe_int (nomark _))
    (pss_one (ps_set (i := 5) scRight.nd rfl (.inl rfl) (pe_tup (pa_cons pe_str (pa_cons (pv 3) pa_nil)))))
    (pss_one (ps_if (pt_cmpR op_gt (pv 2) pe_int (nomark _))
    (pss_one (ps_set (i := 5) scRight.nd rfl (.inl rfl) (pe_tup (pa_cons pe_str (pa_cons (pv 2) pa_nil)))))
    pss_nil)))
  (pss_cons (ps_if (pt_cmpR op_ne (pe_callB (call_reprD hg hr) (by rfl) M.repr_ (by decide +kernel) (pa_cons (pe_lamcallG (T := [(T, qR)]) (TT := TTref CL CD) (Ng := ["_law_call", "_law_caught", "error"]) (k := k) hg (by rfl) gRf kRf lRf cRf bRf scRefused rfl (.inl rfl) (refused_gives M R) TB rfl (List.mem_singleton.mpr rfl) (fun p hp _ => by cases List.mem_singleton.mp hp; rfl) hr (LamX.lamS_by (sc := defScope sRight) (by decide +kernel)) rfl (fun _ _ _ _ _ => rfl) (fun A outer s H E f c' hA hrL => (pe_calE cBw hA hrL (by rfl) (fun σ => lam_passes σ) (pa_cons (pv 7) (pa_cons (pv 8) (pa_cons (pv 6) pa_nil)))))) pa_nil)) (pe_callB (call_reprD hg hr) (by rfl) M.repr_ (by decide +kernel) (pa_cons (pv 5) pa_nil)) (nomark _))
    (pss_one (ps_ret pe_bl))
    pss_nil)
  (pss_one (ps_if (pt_cmpR op_ne (pe_callB (call_reprD hg hr) (by rfl) M.repr_ (by decide +kernel) (pa_cons (pe_lamcallG (T := [(T, qR)]) (TT := TTref CL CD) (Ng := ["_law_call", "_law_caught", "error"]) (k := k) hg (by rfl) gRf kRf lRf cRf bRf scRefused rfl (.inl rfl) (refused_gives M R) TB rfl (List.mem_singleton.mpr rfl) (fun p hp _ => by cases List.mem_singleton.mp hp; rfl) hr (LamX.lamS_by (sc := defScope sRight) (by decide +kernel)) rfl (fun _ _ _ _ _ => rfl) (fun A outer s H E f c' hA hrL => (pe_calEK0 cBw kBw hA hrL (by rfl) (fun σ => lam_passes σ) (pk_cons (pv 8) (pk_cons (pv 6) (pk_cons (pv 7) pk_nil)))))) pa_nil)) (pe_callB (call_reprD hg hr) (by rfl) M.repr_ (by decide +kernel) (pa_cons (pv 5) pa_nil)) (nomark _))
    (pss_one (ps_ret pe_bl))
    pss_nil))))))))))
  (pss_one (ps_ret pe_bl)))), ?_⟩
  refine ⟨_, rfl, (by show 3 ≤ sizeLine; decide), fun l1 nl1 => ?_⟩
  have s1 := same_new (o := .lst [V.int 2, V.int 5, V.int 10007]) nl1
  refine ⟨u, l1, _, 0, rfl, hU.same s1, by omega, (ne_of_none (hU.at).choose_spec nl1).symm, SqL.of upd_same, (by intro z; cases z), (by show 3 ≤ 1000; decide), fun x0 H1 hx u1 b1 => ?_⟩
  obtain ⟨p, hp, rfl⟩ := List.mem_map.mp (show x0 ∈ prs3.map V.int from hx)
  have pr : Prm p := prm_in hp (by decide)
  have p2 : 2 ≤ p ∧ p ≤ 10007 := by
    simp only [prs3, List.mem_cons, List.not_mem_nil, or_false] at hp
    omega
  refine ⟨_, rfl, u, 3, _, rfl, u1, by omega, by decide, by decide, fun n0 H2 n00 n01 u2 b2 => ⟨1, n0, rfl, rfl, (by show 2 ≤ sizeLine; decide), fun t1 nt1 => ⟨t1, _, rfl, SqT.of upd_same, rfl, _, _, rfl, _, _, rfl, rfl, ?_⟩⟩⟩
  obtain ⟨N, eN, N1, N3⟩ : ∃ N : Nat, 1 + n0 = (N : Int) ∧ 1 ≤ N ∧ N ≤ 3 := ⟨(1 + n0).toNat, by omega, by omega, by omega⟩
  have st1 := same_new (o := .tup [V.int p, V.int (1 + n0)]) nt1
  have bb : But u H _ := (((But.same s1).trans b1).trans b2).trans (But.same st1)
  obtain ⟨uu, uv, uk, hu0, _⟩ := id hU
  have T2 : LamX.Tabs [(T, qR)] _ := Tabs.but hT bb hu0
  refine ⟨6, rfl, by decide, by decide, ?_⟩
  refine for_range (lo := 0) (n := 6) (fun i σ H' => ∃ y1 y2 y3 y4 y5 y6 y9, σ = [some (.ref u), y1, y2, y3, y4, y5, y6, some (.int p), some (.int (1 + n0)), y9] ∧ Ur (2 + 300 * i) H' u ∧ ButN u H H' ∧ LamX.Tabs [(T, qR)] H') ⟨_, _, _, _, _, _, _, rfl, (u2.same st1).up (by omega), ButN.of bb, T2⟩ ?_ ?_
  · rintro i σ H3 hi ⟨y1, y2, y3, y4, y5, y6, y9, rfl, u3, b3, T3⟩
    refine ⟨_, rfl, u, 5, _, rfl, u3, by omega, by decide, by decide, fun dp H4 d0 d1 u4 b4 => ?_⟩
    refine ⟨_, rfl, u, 9, _, rfl, u4, by omega, by decide, by decide, fun mn H5 m0 m1 u5 b5 => ⟨36, mn, rfl, rfl, _, _, rfl, ?_⟩⟩
    obtain ⟨D, rfl⟩ : ∃ D : Nat, dp = (D : Int) := ⟨dp.toNat, by omega⟩
    obtain ⟨m, rfl⟩ : ∃ m : Nat, mn = (m : Int) := ⟨mn.toNat, by omega⟩
    refine ⟨_, rfl, _, rfl, 10, 18, rfl, rfl, ⟨by decide, by decide, by decide⟩, (by show 4 ≤ sizeLine; decide), fun l2 nl2 => ?_⟩
    have s5 := same_new (o := .lst (rdsN.map V.int)) nl2
    have u5' := u5.same s5
    refine ⟨u, l2, D, _, rdsN, rfl, u5', by omega, by omega, (ne_of_none (u5.at).choose_spec nl2).symm, SqL.of upd_same, (by intro z; cases z), (by show 4 ≤ 1000; decide), (by decide), fun nb nv H6 hn hb6 u6 b6 => ?_⟩
    refine ⟨(by show 6 ≤ sizeLine; decide), fun l3 nl3 => ?_⟩
    have s6 := same_new (o := .lst [V.str "set", V.str "copy", V.str "add", V.str "scale", V.str "swap", V.str "write"]) nl3
    have u7 := u6.same s6
    have hb7 := hb6.kt (Kt.same s6)
    have b7 : But u H3 _ := b4.trans (b5.trans ((But.same s5).trans (b6.trans (But.same s6))))
    have hl3 : (upd H6 l3 (.lst [V.str "set", V.str "copy", V.str "add", V.str "scale", V.str "swap", V.str "write"])) l3 = some (.lst (wdsN.map V.str)) := upd_same
    have nl3u : l3 ≠ u := (ne_of_none (u6.at).choose_spec nl3).symm
    generalize upd H6 l3 (.lst [V.str "set", V.str "copy", V.str "add", V.str "scale", V.str "swap", V.str "write"]) = H7 at u7 hb7 b7 hl3 ⊢
    obtain ⟨vc, vus, rfl, hsq7, htr7⟩ := id hb7
    have eL : 36 + (m : Int) - (D : Int) = ((36 + m - D : Nat) : Int) := by omega
    refine ⟨_, rfl, _, rfl, _, rfl, 36 + (m : Int), (D : Int), rfl, rfl, _, rfl, by omega, by omega, fun l4 nl4 => ?_⟩
    rw [eL]
    refine lc_range (lo := 0) (n := 36 + m - D) (fun j H' => ∃ ops us, H' l4 = some (.lst us) ∧ ops.length = j ∧ OpsG p (1 + n0) wdsN ops ∧ TrsAt K H' ops us ∧ Ur (2 + 300 * i + 6 + 6 * j) H' u ∧ But u H7 H') ⟨[], [], upd_same, rfl, (fun t m => nomatch m), TrsAt.nil, (u7.same (same_new nl4)).up (by omega), But.new nl4⟩ ?_ ?_
    · rintro j H8 hj ⟨ops, us, e8, el, og, tr8, u8, b8⟩
      refine ⟨rfl, _, rfl, _, rfl, _, rfl, _, rfl, u, l3, p, 1 + n0, wdsN, _, rfl, u8, by omega, by omega, by omega, by omega, by omega, nl3u, SqL.of (b8 _ _ nl3u hl3), (by intro z; cases z), (by decide), (by decide), fun z as v H9 go hz tr u9 b9 => ?_⟩
      have nl4u : l4 ≠ u := (ne_of_none (u7.at).choose_spec nl4).symm
      have ul : us.length = ops.length := tr8.length
      have e9 := b9 _ _ nl4u e8
      have k9 : Kt H9 (upd H9 l4 (.lst (us ++ [v]))) := Kt.but But.upd e9
      refine ⟨us, e9, small1000 (by omega), ops ++ [.op z as], us ++ [v], upd_same, by rw [List.length_append, el]; rfl, fun t mt => ?_, (TrsAt.kt ((u8.kt b9).trans k9) _ _ tr8).append (TrsAt.one (TrAt.kt k9 _ _ tr)), (u9.but But.upd nl4u.symm).up (by omega), fun b o nb e => ?_⟩
      · rcases List.mem_append.mp mt with e | e
        · exact og t e
        · exact ⟨z, as, List.mem_singleton.mp e, go, hz⟩
      · rw [upd_ne (ne_of_none e nl4)]
        exact b9 _ _ nb (b8 _ _ nb e)
    rintro H8 ⟨ops, us, e8, el, og, tr8, u8, b8⟩
    refine ⟨l4, us, rfl, .inl ⟨SqL.of e8, fun t2 nt2 => ?_⟩⟩
    have s8 := same_new (o := .tup us) nt2
    have ul : us.length = ops.length := tr8.length
    have vl : vus.length = nb.length := htr7.length
    have nl1' := nst_len1 hn
    have k78 := u7.kt b8
    refine rCatA_mk (((k78.trans (Kt.same s8))).sq hsq7) (SqT.of upd_same) (Nat.le_trans (show vus.length + us.length ≤ 100 by omega) (by rw [sizeLine_eq]; decide)) fun v10 H10 hv s10 => ?_
    obtain ⟨c10, rfl, sq10⟩ := hv
    have s810 := s8.trans s10
    have hB : BodyAt K H10 (nb ++ ops) (.ref c10) := ⟨c10, _, rfl, sq10, TrsAt.append (TrsAt.kt (k78.trans (Kt.same s810)) _ _ htr7) (TrsAt.kt (Kt.same s810) _ _ tr8)⟩
    have u10 := u8.same s810
    have b10 : But u H3 H10 := b7.trans (b8.trans (But.same s810))
    obtain ⟨uu3, uv3, uk3, hu3, _⟩ := id u3
    have T10 : LamX.Tabs [(T, qR)] H10 := Tabs.but T3 b10 hu3
    have ok5 := drawn_ok hn og (by omega) (by omega)
    have ez : szs (nb ++ ops) = 36 + (m : Int) := by
      rw [drawn_szs hn og]
      omega
    have ed : deps (nb ++ ops) = (D : Int) := drawn_deps hn og
    have n8 : N ≤ 80 := by omega
    have zz : szs (nb ++ ops) ≤ 100 := by omega
    have dd : deps (nb ++ ops) ≤ 100 := by omega
    have ll : (nb ++ ops).length ≤ 100 := by
      rw [List.length_append]
      omega
    rw [eN] at og
    have pl := drawn_plain hn og (by decide)
    refine ⟨fun σ' H' => ∃ vd, σ' = [some (.ref u), some (.int (0 + (i : Int))), some (.int (D : Int)), some (.int (36 + (m : Int))), some (.ref l3), some vd, some (.ref c10), some (.int p), some (.int (1 + n0)), y9] ∧ DueAt K H' vd (dueD (szs (nb ++ ops)) (deps (nb ++ ops))) ∧ Same H10 H', ?_, ?_⟩
    · rw [ez, ed]
      refine ⟨_, rfl, _, _, rfl, rfl, _, rfl, ite2 (fun c1 => ?_) (fun c1 => ?_)⟩
      · have c1 : (40 : Int) < 36 + (m : Int) := of_decide_eq_true c1
        refine ⟨_, rfl, (by show 2 ≤ sizeLine; decide), fun t nt => ?_⟩
        exact ⟨_, rfl, .inr ⟨t, _, _, rfl, SqT.of upd_same, by rw [dueD, if_pos (by omega)], .inl rfl, by omega, by omega⟩, same_new nt⟩
      · have c1 : ¬ (40 : Int) < 36 + (m : Int) := fun z => c1 (decide_eq_true z)
        refine ⟨_, rfl, _, _, rfl, rfl, _, rfl, ite2 (fun c2 => ?_) (fun c2 => ?_)⟩
        · have c2 : (2 : Int) < (D : Int) := of_decide_eq_true c2
          refine ⟨_, rfl, (by show 2 ≤ sizeLine; decide), fun t nt => ?_⟩
          exact ⟨_, rfl, .inr ⟨t, _, _, rfl, SqT.of upd_same, by rw [dueD, if_neg (by omega), if_pos (by omega)], .inr rfl, by omega, by omega⟩, same_new nt⟩
        · have c2 : ¬ (2 : Int) < (D : Int) := fun z => c2 (decide_eq_true z)
          exact ⟨_, rfl, .inl ⟨rfl, by rw [dueD, if_neg (by omega), if_neg (by omega)]⟩, Same.refl _⟩
    rintro σ' H11 ⟨vd, rfl, due11, s11⟩
    have T11 : LamX.Tabs [(T, qR)] H11 := LamX.Tabs.ext T10 s11
    refine ⟨T11, fun H12 e12 T12 => ?_⟩
    have k12 : Kt H10 H12 := (Kt.same s11).trans (extN_kt e12)
    refine bw_tt (p := p) (N := N) (v := .ref c10) (fun E Q hs => ⟨_, rfl, _, rfl, _, rfl, by rw [← eN] at hs; exact hs⟩) (hB.kt k12) ok5 pl ll pr (by omega) n8 zz dd (fun v13 H13 due13 s13 => ?_)
    obtain ⟨sh1, sh2, sh3, sh4⟩ := due13.sho
    have due13' := due11.kt ((extN_kt e12).trans (Kt.same s13))
    refine ⟨v13, _, rfl, due13.dp, sh1, sh2, sh3, sh4, ?_⟩
    refine ⟨_, rfl, vd, _, rfl, due13'.dp, sh1, sh2, sh3, sh4, rfl, _, rfl, ?_⟩
    rw [decide_eq_true (Eq.refl (V.str _))]
    refine iteF ?_
    have T13 : LamX.Tabs [(T, qR)] H13 := LamX.Tabs.ext T12 s13
    refine ⟨T13, fun H14 e14 T14 => ?_⟩
    have k1314 := extN_kt e14
    have k14 : Kt H10 H14 := k12.trans ((Kt.same s13).trans k1314)
    refine bw_tt (p := p) (N := N) (v := .ref c10) (fun E Q hs => ⟨_, rfl, _, rfl, _, rfl, by rw [← eN] at hs; exact hs⟩) (hB.kt k14) ok5 pl ll pr (by omega) n8 zz dd (fun v15 H15 due15 s15 => ?_)
    have due15' := due13'.kt (k1314.trans (Kt.same s15))
    refine ⟨v15, _, rfl, due15.dp, sh1, sh2, sh3, sh4, ?_⟩
    refine ⟨_, rfl, vd, _, rfl, due15'.dp, sh1, sh2, sh3, sh4, rfl, _, rfl, ?_⟩
    rw [decide_eq_true (Eq.refl (V.str _))]
    refine iteF ?_
    refine ⟨_, _, _, _, _, _, _, rfl, ((Ur.extN e14 ((Ur.extN e12 (u10.same s11)).same s13)).same s15).up (by omega), ?_, LamX.Tabs.ext T14 s15⟩
    exact b3.trans ((ButN.of (b10.trans (But.same s11))).trans ((ButN.ext e12).trans ((ButN.of (But.same s13)).trans ((ButN.ext e14).trans (ButN.of (But.same s15))))))
  · rintro σ H3 ⟨y1, y2, y3, y4, y5, y6, y9, rfl, u3, b3, T3⟩
    exact q H3 b3 T3
end
end K32
set_option Elab.async false
set_option linter.all false
set_option maxRecDepth 100000
set_option pp.maxSteps 500
set_option pp.deepTerms.threshold 8
set_option pp.deepTerms false
namespace K32
open PySem PySem.Spec PyProof.Rows L2 Lj
def spLawT (K : PySem.W.Frag) (T : Addr) : Sp := fun vs H Q _ => ∃ (a : Addr) (ns : List Int), vs = [.ref a] ∧ SqL K H a (ns.map V.int) ∧ ns.length ≤ 63 ∧ H T = some (.tbl #[]) ∧ ∀ H', Q (.bl true) H'
theorem extN_seq {K : PySem.W.Frag} {a : Addr} {H H' : Hp} {xs : List V} (b : LamX.ExtN H H') (h : SqL K H a xs) : SqL K H' a xs := by
  rcases h with (h | ⟨o, h⟩) | h
  · exact .inl (.inl (b _ _ h fun _ z => nomatch z))
  · exact .inl (.inr ⟨o, b _ _ h fun _ z => nomatch z⟩)
  · exact .inr h
section
variable {P : Program} {w : World} {K : PySem.W.Frag} {mg : Str → Option Value} {base : Heap}
theorem ok_law {T : Addr} (M : Bl mg) (F : At K mg "law" sLaw ["_law_script"]) {k : Nat} (h1 : Has P w K mg base k "_law_pot" ["_law_script", "_law_k"] (spPot K)) (h2 : Has P w K mg base k "_law_right" ["_law_pot_here"] (spRtT T)) : Has P w K mg base (k + 1) "law" ["_law_script"] (spLawT K T) := by
  obtain ⟨_, _, cPot⟩ := h1
  obtain ⟨_, _, cRight⟩ := h2
  refine Has.by F scLaw (fun vs H Q E h => ?_) (fun f cdv A out s H vs Q E hg hr h => ?_)
  · obtain ⟨a, ns, rfl, _⟩ := h
    rfl
  obtain ⟨a, ns, rfl, hS, hl, hT0, q⟩ := h
  have hT : LamX.Tabs [(T, qR)] H := fun p hp => by
    cases List.mem_singleton.mp hp
    exact LamX.TabS.nil hT0
  refine ⟨_, (pss_one (ps_ret (pe_callB (cr_all rfl) (by rfl) M.all_ (by decide +kernel) (pa_cons (pe_lc (own := [("_law_k", 1)]) (g := gName 1) (by rfl) scLaw.nd (pi_range1 (by rfl) M.range_ (pa_cons (pe_callB (call_max2 rfl) (by rfl) M.max_ (by decide +kernel) (pa_cons pe_int (pa_cons (pe_callB (call_min2 rfl) (by rfl) M.min_ (by decide +kernel) (pa_cons pe_int (pa_cons (pe_callB call_len_seq (by rfl) M.len_ (by decide +kernel) (pa_cons (pv 0) pa_nil)) pa_nil))) pa_nil))) pa_nil)) (blkOk_by (own := [("_law_k", 1)]) (N := ["_law_script", "_law_k"]) (sc := defScope sLaw) (by decide +kernel)) (fun _ _ _ _ _ => (pg_name (i := 1) scLaw.nd rfl (.inl rfl))) (fun _ _ _ _ _ => pts_nil) (fun _ _ _ _ _ => (pe_cal cRight hg hr (by rfl) (pa_cons (pe_cal cPot hg hr (by rfl) (pa_cons (pv 0) (pa_cons (pv 1) pa_nil))) pa_nil)))) pa_nil)))), ?_⟩
  have hlen : (ns.map V.int).length = ns.length := List.length_map _
  refine ⟨_, rfl, a, _, rfl, .inl hS, 2, _, rfl, 1, _, rfl, ?_⟩
  rw [hlen]
  obtain ⟨m, hm, hm3⟩ : ∃ m : Nat, (if (if (ns.length : Int) < 2 then (ns.length : Int) else 2) > 1 then (if (ns.length : Int) < 2 then (ns.length : Int) else 2) else 1) = (m : Int) ∧ m ≤ 2 := by
    refine ⟨(if (if (ns.length : Int) < 2 then (ns.length : Int) else 2) > 1 then (if (ns.length : Int) < 2 then (ns.length : Int) else 2) else 1).toNat, ?_, ?_⟩
    · split <;> split <;> omega
    · split <;> split <;> omega
  refine ⟨_, rfl, ?_, ?_, fun D nD => ?_⟩
  · rw [hm]; omega
  · rw [hm]; omega
  rw [hm]
  refine lc_range (lo := 0) (n := m) (fun i H' => H' D = some (.lst ((List.replicate i true).map V.bl)) ∧ LamX.ExtN H H' ∧ LamX.Tabs [(T, qR)] H') ⟨upd_same, LamX.ExtN.of (same_new nD), LamX.Tabs.ext hT (same_new nD)⟩ ?_ ?_
  · rintro i H1 hi ⟨e1, x1, T1⟩
    refine ⟨rfl, _, rfl, _, rfl, a, ns, _, rfl, extN_seq x1 hS, by omega, by omega, fun H2 u s2 nu hU => ?_⟩
    refine ⟨u, rfl, hU, LamX.Tabs.ext T1 s2, fun H3 b3 T3 => ?_⟩
    have nDu : D ≠ u := ne_of_none e1 nu
    have e3 := b3 _ _ nDu (s2 _ _ e1) (fun _ z => nomatch z)
    have x3 : LamX.ExtN H H3 := fun b o e n => by
      have z := x1 b o e n
      exact b3 _ _ (ne_of_none z nu) (s2 _ _ z) n
    refine ⟨_, e3, ?_, ?_, fun b o e n => ?_, Tabs.but T3 But.upd e3⟩
    · rw [List.length_map, List.length_replicate]
      exact small1000 (by omega)
    · rw [upd_same, List.replicate_succ', List.map_append]
      rfl
    · rw [upd_ne (ne_of_none e nD)]
      exact x3 b o e n
  · rintro H1 ⟨e1, s1⟩
    refine ⟨D, _, rfl, SqL.of e1, ?_⟩
    have ea : (List.replicate m true).all id = true := by
      rw [List.all_eq_true]
      intro x hx
      rw [List.eq_of_mem_replicate hx]
      rfl
    show Q (.bl _) H1
    rw [ea]
    exact q H1
end
end K32
set_option Elab.async false
set_option linter.all false
set_option maxRecDepth 100000
set_option pp.maxSteps 500
set_option pp.deepTerms.threshold 8
set_option pp.deepTerms false
namespace K32
open PySem PySem.Spec PyProof.Rows L2 Lj
section
variable {P : Program} {w : World} {K : PySem.W.Frag} {mg : Str → Option Value} {base : Heap}
/-! ### the register that is overwritten -/
theorem ok_overwritten (M : Bl mg) (F : At K mg "overwritten" sOverwritten ["instruction"]) {k : Nat} : Has P w K mg base (k + 1) "overwritten" ["instruction"] (spOv K) := by
  refine Has.by F scOverwritten (fun vs H Q E h => ?_) (fun f cdv A out s H vs Q E hg hr h => ?_)
  · obtain ⟨_, _, _, _, _, rfl, _⟩ := h
    rfl
  obtain ⟨v, z, as, p, n, rfl, hT, go, q⟩ := h
  rw [TrAt] at hT
  obtain ⟨a, rfl, sq⟩ := hT
  -- it is asked for argument 0
  have a1 : ∃ x r, as = x :: r := by
    rcases go with ⟨_, y, c, rfl, _⟩ | ⟨_, y, rfl, _⟩ | ⟨_, y, c, rfl, _⟩ | ⟨_, y, c, d, rfl, _⟩ <;> exact ⟨_, _, rfl⟩
  obtain ⟨x0, r0, eas⟩ := a1
  refine ⟨_, (pss_cons (ps_set (i := 1) scOverwritten.nd rfl (.inl rfl) (pe_ix ix_tup (pv 0) pe_int (fun _ _ => rfl)))
  (pss_cons (ps_if (PW.pt (pw_or (pt_cmpR op_in_seq (pv 1) (pe_tup (pa_cons pe_str (pa_cons pe_str (pa_cons pe_str pa_nil)))) (by rfl)) (pw_or1 (PW.pt (pw_and (pt_cmpR op_eq (pv 1) pe_str (nomark _)) (pw_and1 (pt_cmpR op_eq (pe_ix ix_tup (pv 0) pe_int (fun _ _ => rfl)) pe_int (nomark _))))))))
    (pss_one (ps_ret (pe_ix ix_tup (pv 0) pe_int (fun _ _ => rfl))))
    pss_nil)
  (pss_one (ps_ret pe_non)))), ?_⟩
  refine ⟨_, rfl, a, _, 0, .str z, rfl, rfl, sq, at0, ?_⟩
  refine ⟨_, rfl, ?_⟩
  refine ⟨(by show 3 ≤ sizeLine; decide), fun t nt => ?_⟩
  have st := same_new (o := .tup [.str "set", .str "copy", .str "read"]) nt
  have sq1 := (Kt.same st).sq sq
  refine ⟨t, _, rfl, .inr (SqT.of upd_same), rfl, rfl, ?_⟩
  generalize upd H t (.tup [.str "set", .str "copy", .str "read"]) = H1 at st sq1 ⊢
  have yes : (z = "set" ∨ z = "copy" ∨ z = "read" ∨ (z = "scale" ∧ as[1]? = some 0)) → Q (.int x0) H1 := fun c => by
    have := q H1 st
    unfold ovw at this
    rw [if_pos c, eas] at this
    exact this
  have no : ¬ (z = "set" ∨ z = "copy" ∨ z = "read" ∨ (z = "scale" ∧ as[1]? = some 0)) → Q .non H1 := fun c => by
    have := q H1 st
    unfold ovw at this
    rw [if_neg c] at this
    exact this
  subst eas
  refine ⟨_, rfl, ite2 (fun c => ?_) (fun c => ?_)⟩
  · have e := inV3.mp c
    refine ⟨_, rfl, a, _, 1, .int x0, rfl, rfl, sq1, atI_nat (j := 1) rfl, ?_⟩
    exact yes (by rcases e with e | e | e <;> simp [e])
  have n3 : ¬ (z = "set" ∨ z = "copy" ∨ z = "read") := fun e => c (inV3.mpr e)
  refine ⟨_, rfl, rfl, _, rfl, ?_⟩
  by_cases e4 : z = "scale"
  · subst e4
    obtain ⟨c, rfl⟩ : ∃ c, r0 = [c] := by
      rcases go with ⟨_, y, c, e, _⟩ | ⟨h | h, _⟩ | ⟨h | h, _⟩ | ⟨h, _⟩
      · cases e
        exact ⟨c, rfl⟩
      all_goals exact absurd h (by decide)
    refine iteP rfl ?_
    refine ⟨_, rfl, a, _, 2, .int c, rfl, rfl, sq1, atI_nat (j := 2) rfl, rfl, _, rfl, ?_⟩
    by_cases c0 : c = 0
    · subst c0
      refine iteP rfl ?_
      refine ⟨_, rfl, a, _, 1, .int x0, rfl, rfl, sq1, atI_nat (j := 1) rfl, ?_⟩
      exact yes (.inr (.inr (.inr ⟨rfl, rfl⟩)))
    · refine iteN (fun h => c0 (V.int.inj h)) ?_
      refine no fun h => ?_
      rcases h with h | h | h | ⟨_, h⟩
      · exact n3 (.inl h)
      · exact n3 (.inr (.inl h))
      · exact n3 (.inr (.inr h))
      · exact c0 (Option.some.inj h)
  · refine iteN (fun h => e4 (V.str.inj h)) ?_
    refine no fun h => ?_
    rcases h with h | h | h | ⟨h, _⟩
    · exact n3 (.inl h)
    · exact n3 (.inr (.inl h))
    · exact n3 (.inr (.inr h))
    · exact e4 h
end
end K32
set_option Elab.async false
set_option linter.all false
set_option maxRecDepth 100000
set_option pp.maxSteps 500
set_option pp.deepTerms.threshold 8
set_option pp.deepTerms false
namespace K32
open PySem PySem.Spec PyProof.Rows L2 Lj
set_option maxHeartbeats 16000000
abbrev sEL : Stmt := inClass (topS 3) 0
abbrev sED : Stmt := inClass (topS 4) 0
theorem all_mk {l : PySem.W.OpenLaw} {w : World} {K : PySem.W.Frag} {h : Heap} {mg : Str → Option Value} {fa f0 f1 f2 f3 f4 f5 f6 f7 f8 f9 f10 f11 f12 f13 f14 f15 f16 f17 f18 f19 f20 f21 f22 f23 f24 f25 f26 f27 f28 f29 f30 f31 f32 f33 f34 f35 f36 f37 f38 f39 f40 f41 f42 f43 : Addr} (X : K.In h) (G : h.Ns mainGlobals mg) (hfa : mg "law" = some (.ref fa)) (tab : TabOf mg "_law_right" h) {cR : Addr}
    {od0 an0 od1 an1 od2 an2 od3 an3 od4 an4 od5 an5 od6 an6 od7 an7 od8 an8 od9 an9 od10 an10 od11 an11 od12 an12 od13 an13 od14 an14 od15 an15 od16 an16 od17 an17 od18 an18 od19 an19 od20 an20 od21 an21 od22 an22 od23 an23 od24 an24 od25 an25 od26 an26 od27 an27 od28 an28 od29 an29 od30 an30 od31 an31 od32 an32 od33 an33 od34 an34 od35 an35 od36 an36 od37 an37 od38 an38 od39 an39 od40 an40 od41 an41 od42 an42 od43 an43 : Option Addr} {sl0 sl1 sl2 sl3 sl4 sl5 sl6 sl7 sl8 sl9 sl10 sl11 sl12 sl13 sl14 sl15 sl16 sl17 sl18 sl19 sl20 sl21 sl22 sl23 sl24 sl25 sl26 sl27 sl28 sl29 sl30 sl31 sl32 sl33 sl34 sl35 sl36 sl37 sl38 sl39 sl40 sl41 sl42 sl43 : Array (Option Value)} {oc0 kV0 dc0 pm0 cd0 ct0 oc1 kV1 dc1 pm1 cd1 ct1 oc2 kV2 dc2 pm2 cd2 ct2 oc3 kV3 dc3 pm3 cd3 ct3 oc4 kV4 dc4 pm4 cd4 ct4 oc5 kV5 dc5 pm5 cd5 ct5 oc6 kV6 dc6 pm6 cd6 ct6 oc7 kV7 dc7 pm7 cd7 ct7 oc8 kV8 dc8 pm8 cd8 ct8 oc9 kV9 dc9 pm9 cd9 ct9 oc10 kV10 dc10 pm10 cd10 ct10 oc11 kV11 dc11 pm11 cd11 ct11 oc12 kV12 dc12 pm12 cd12 ct12 oc13 kV13 dc13 pm13 cd13 ct13 oc14 kV14 dc14 pm14 cd14 ct14 oc15 kV15 dc15 pm15 cd15 ct15 oc16 kV16 dc16 pm16 cd16 ct16 oc17 kV17 dc17 pm17 cd17 ct17 oc18 kV18 dc18 pm18 cd18 ct18 oc19 kV19 dc19 pm19 cd19 ct19 oc20 kV20 dc20 pm20 cd20 ct20 oc21 kV21 dc21 pm21 cd21 ct21 oc22 kV22 dc22 pm22 cd22 ct22 oc23 kV23 dc23 pm23 cd23 ct23 oc24 kV24 dc24 pm24 cd24 ct24 oc25 kV25 dc25 pm25 cd25 ct25 oc26 kV26 dc26 pm26 cd26 ct26 oc27 kV27 dc27 pm27 cd27 ct27 oc28 kV28 dc28 pm28 cd28 ct28 oc29 kV29 dc29 pm29 cd29 ct29 oc30 kV30 dc30 pm30 cd30 ct30 oc31 kV31 dc31 pm31 cd31 ct31 oc32 kV32 dc32 pm32 cd32 ct32 oc33 kV33 dc33 pm33 cd33 ct33 oc34 kV34 dc34 pm34 cd34 ct34 oc35 kV35 dc35 pm35 cd35 ct35 oc36 kV36 dc36 pm36 cd36 ct36 oc37 kV37 dc37 pm37 cd37 ct37 oc38 kV38 dc38 pm38 cd38 ct38 oc39 kV39 dc39 pm39 cd39 ct39 oc40 kV40 dc40 pm40 cd40 ct40 oc41 kV41 dc41 pm41 cd41 ct41 oc42 kV42 dc42 pm42 ct42 oc43 kV43 dc43 pm43 cd43 ct43 : Value}
    (a0 : PySem.W.nsIn K mainGlobals "inverse" = some (some (.ref f0))) (l0 : K.lookup f0 = some ⟨oc0, od0, .func (PySem.W.fnOf "inverse" "inverse" (defArgs sInverse) (defBody sInverse) (defScope sInverse) .none kV0 dc0 pm0 an0 cd0 ct0), sl0⟩) (c0 : PySem.W.codeIn K cd0 "inverse" = true) (k0 : PySem.W.keepIn K (.ref f0) = true)
    (a1 : PySem.W.nsIn K mainGlobals "rank" = some (some (.ref f1))) (l1 : K.lookup f1 = some ⟨oc1, od1, .func (PySem.W.fnOf "rank" "rank" (defArgs sPrank) (defBody sPrank) (defScope sPrank) .none kV1 dc1 pm1 an1 cd1 ct1), sl1⟩) (c1 : PySem.W.codeIn K cd1 "rank" = true) (k1 : PySem.W.keepIn K (.ref f1) = true)
    (a2 : PySem.W.nsIn K mainGlobals "weights" = some (some (.ref f2))) (l2 : K.lookup f2 = some ⟨oc2, od2, .func (PySem.W.fnOf "weights" "weights" (defArgs sWeights) (defBody sWeights) (defScope sWeights) .none kV2 dc2 pm2 an2 cd2 ct2), sl2⟩) (c2 : PySem.W.codeIn K cd2 "weights" = true) (k2 : PySem.W.keepIn K (.ref f2) = true)
    (a3 : PySem.W.nsIn K mainGlobals "equations" = some (some (.ref f3))) (l3 : K.lookup f3 = some ⟨oc3, od3, .func (PySem.W.fnOf "equations" "equations" (defArgs sEquations) (defBody sEquations) (defScope sEquations) .none kV3 dc3 pm3 an3 cd3 ct3), sl3⟩) (c3 : PySem.W.codeIn K cd3 "equations" = true) (k3 : PySem.W.keepIn K (.ref f3) = true)
    (a4 : PySem.W.nsIn K mainGlobals "echelon" = some (some (.ref f4))) (l4 : K.lookup f4 = some ⟨oc4, od4, .func (PySem.W.fnOf "echelon" "echelon" (defArgs sEchelon) (defBody sEchelon) (defScope sEchelon) .none kV4 dc4 pm4 an4 cd4 ct4), sl4⟩) (c4 : PySem.W.codeIn K cd4 "echelon" = true) (k4 : PySem.W.keepIn K (.ref f4) = true)
    (a5 : PySem.W.nsIn K mainGlobals "times" = some (some (.ref f5))) (l5 : K.lookup f5 = some ⟨oc5, od5, .func (PySem.W.fnOf "times" "times" (defArgs sTimes) (defBody sTimes) (defScope sTimes) .none kV5 dc5 pm5 an5 cd5 ct5), sl5⟩) (c5 : PySem.W.codeIn K cd5 "times" = true) (k5 : PySem.W.keepIn K (.ref f5) = true)
    (a6 : PySem.W.nsIn K mainGlobals "less" = some (some (.ref f6))) (l6 : K.lookup f6 = some ⟨oc6, od6, .func (PySem.W.fnOf "less" "less" (defArgs sLess) (defBody sLess) (defScope sLess) .none kV6 dc6 pm6 an6 cd6 ct6), sl6⟩) (c6 : PySem.W.codeIn K cd6 "less" = true) (k6 : PySem.W.keepIn K (.ref f6) = true)
    (a7 : PySem.W.nsIn K mainGlobals "dot" = some (some (.ref f7))) (l7 : K.lookup f7 = some ⟨oc7, od7, .func (PySem.W.fnOf "dot" "dot" (defArgs sDot) (defBody sDot) (defScope sDot) .none kV7 dc7 pm7 an7 cd7 ct7), sl7⟩) (c7 : PySem.W.codeIn K cd7 "dot" = true) (k7 : PySem.W.keepIn K (.ref f7) = true)
    (a8 : PySem.W.nsIn K mainGlobals "size" = some (some (.ref f8))) (l8 : K.lookup f8 = some ⟨oc8, od8, .func (PySem.W.fnOf "size" "size" (defArgs sSize) (defBody sSize) (defScope sSize) .none kV8 dc8 pm8 an8 cd8 ct8), sl8⟩) (c8 : PySem.W.codeIn K cd8 "size" = true) (k8 : PySem.W.keepIn K (.ref f8) = true)
    (a9 : PySem.W.nsIn K mainGlobals "depth" = some (some (.ref f9))) (l9 : K.lookup f9 = some ⟨oc9, od9, .func (PySem.W.fnOf "depth" "depth" (defArgs sDepth) (defBody sDepth) (defScope sDepth) .none kV9 dc9 pm9 an9 cd9 ct9), sl9⟩) (c9 : PySem.W.codeIn K cd9 "depth" = true) (k9 : PySem.W.keepIn K (.ref f9) = true)
    (a10 : PySem.W.nsIn K mainGlobals "read_count" = some (some (.ref f10))) (l10 : K.lookup f10 = some ⟨oc10, od10, .func (PySem.W.fnOf "read_count" "read_count" (defArgs sRead_count) (defBody sRead_count) (defScope sRead_count) .none kV10 dc10 pm10 an10 cd10 ct10), sl10⟩) (c10 : PySem.W.codeIn K cd10 "read_count" = true) (k10 : PySem.W.keepIn K (.ref f10) = true)
    (a11 : PySem.W.nsIn K mainGlobals "write_count" = some (some (.ref f11))) (l11 : K.lookup f11 = some ⟨oc11, od11, .func (PySem.W.fnOf "write_count" "write_count" (defArgs sWrite_count) (defBody sWrite_count) (defScope sWrite_count) .none kV11 dc11 pm11 an11 cd11 ct11), sl11⟩) (c11 : PySem.W.codeIn K cd11 "write_count" = true) (k11 : PySem.W.keepIn K (.ref f11) = true)
    (a12 : PySem.W.nsIn K mainGlobals "word_count" = some (some (.ref f12))) (l12 : K.lookup f12 = some ⟨oc12, od12, .func (PySem.W.fnOf "word_count" "word_count" (defArgs sWord_count) (defBody sWord_count) (defScope sWord_count) .none kV12 dc12 pm12 an12 cd12 ct12), sl12⟩) (c12 : PySem.W.codeIn K cd12 "word_count" = true) (k12 : PySem.W.keepIn K (.ref f12) = true)
    (a13 : PySem.W.nsIn K mainGlobals "unit" = some (some (.ref f13))) (l13 : K.lookup f13 = some ⟨oc13, od13, .func (PySem.W.fnOf "unit" "unit" (defArgs sUnit) (defBody sUnit) (defScope sUnit) .none kV13 dc13 pm13 an13 cd13 ct13), sl13⟩) (c13 : PySem.W.codeIn K cd13 "unit" = true) (k13 : PySem.W.keepIn K (.ref f13) = true)
    (a14 : PySem.W.nsIn K mainGlobals "overwritten" = some (some (.ref f14))) (l14 : K.lookup f14 = some ⟨oc14, od14, .func (PySem.W.fnOf "overwritten" "overwritten" (defArgs sOverwritten) (defBody sOverwritten) (defScope sOverwritten) .none kV14 dc14 pm14 an14 cd14 ct14), sl14⟩) (c14 : PySem.W.codeIn K cd14 "overwritten" = true) (k14 : PySem.W.keepIn K (.ref f14) = true)
    (a15 : PySem.W.nsIn K mainGlobals "cleared" = some (some (.ref f15))) (l15 : K.lookup f15 = some ⟨oc15, od15, .func (PySem.W.fnOf "cleared" "cleared" (defArgs sCleared) (defBody sCleared) (defScope sCleared) .none kV15 dc15 pm15 an15 cd15 ct15), sl15⟩) (c15 : PySem.W.codeIn K cd15 "cleared" = true) (k15 : PySem.W.keepIn K (.ref f15) = true)
    (a16 : PySem.W.nsIn K mainGlobals "executed" = some (some (.ref f16))) (l16 : K.lookup f16 = some ⟨oc16, od16, .func (PySem.W.fnOf "executed" "executed" (defArgs sPexecuted) (defBody sPexecuted) (defScope sPexecuted) .none kV16 dc16 pm16 an16 cd16 ct16), sl16⟩) (c16 : PySem.W.codeIn K cd16 "executed" = true) (k16 : PySem.W.keepIn K (.ref f16) = true)
    (a17 : PySem.W.nsIn K mainGlobals "units" = some (some (.ref f17))) (l17 : K.lookup f17 = some ⟨oc17, od17, .func (PySem.W.fnOf "units" "units" (defArgs sUnits) (defBody sUnits) (defScope sUnits) .none kV17 dc17 pm17 an17 cd17 ct17), sl17⟩) (c17 : PySem.W.codeIn K cd17 "units" = true) (k17 : PySem.W.keepIn K (.ref f17) = true)
    (a18 : PySem.W.nsIn K mainGlobals "product" = some (some (.ref f18))) (l18 : K.lookup f18 = some ⟨oc18, od18, .func (PySem.W.fnOf "product" "product" (defArgs sProduct) (defBody sProduct) (defScope sProduct) .none kV18 dc18 pm18 an18 cd18 ct18), sl18⟩) (c18 : PySem.W.codeIn K cd18 "product" = true) (k18 : PySem.W.keepIn K (.ref f18) = true)
    (a19 : PySem.W.nsIn K mainGlobals "pieces" = some (some (.ref f19))) (l19 : K.lookup f19 = some ⟨oc19, od19, .func (PySem.W.fnOf "pieces" "pieces" (defArgs sPieces) (defBody sPieces) (defScope sPieces) .none kV19 dc19 pm19 an19 cd19 ct19), sl19⟩) (c19 : PySem.W.codeIn K cd19 "pieces" = true) (k19 : PySem.W.keepIn K (.ref f19) = true)
    (a20 : PySem.W.nsIn K mainGlobals "gather" = some (some (.ref f20))) (l20 : K.lookup f20 = some ⟨oc20, od20, .func (PySem.W.fnOf "gather" "gather" (defArgs sGather) (defBody sGather) (defScope sGather) .none kV20 dc20 pm20 an20 cd20 ct20), sl20⟩) (c20 : PySem.W.codeIn K cd20 "gather" = true) (k20 : PySem.W.keepIn K (.ref f20) = true)
    (a21 : PySem.W.nsIn K mainGlobals "gather_part" = some (some (.ref f21))) (l21 : K.lookup f21 = some ⟨oc21, od21, .func (PySem.W.fnOf "gather_part" "gather_part" (defArgs sGather_part) (defBody sGather_part) (defScope sGather_part) .none kV21 dc21 pm21 an21 cd21 ct21), sl21⟩) (c21 : PySem.W.codeIn K cd21 "gather_part" = true) (k21 : PySem.W.keepIn K (.ref f21) = true)
    (a22 : PySem.W.nsIn K mainGlobals "backward" = some (some (.ref f22))) (l22 : K.lookup f22 = some ⟨oc22, od22, .func (PySem.W.fnOf "backward" "backward" (defArgs sBackward) (defBody sBackward) (defScope sBackward) .none kV22 dc22 pm22 an22 cd22 ct22), sl22⟩) (c22 : PySem.W.codeIn K cd22 "backward" = true) (k22 : PySem.W.keepIn K (.ref f22) = true)
    (a23 : PySem.W.nsIn K mainGlobals "silent" = some (some (.ref f23))) (l23 : K.lookup f23 = some ⟨oc23, od23, .func (PySem.W.fnOf "silent" "silent" (defArgs sSilent) (defBody sSilent) (defScope sSilent) .none kV23 dc23 pm23 an23 cd23 ct23), sl23⟩) (c23 : PySem.W.codeIn K cd23 "silent" = true) (k23 : PySem.W.keepIn K (.ref f23) = true)
    (a24 : PySem.W.nsIn K mainGlobals "undone" = some (some (.ref f24))) (l24 : K.lookup f24 = some ⟨oc24, od24, .func (PySem.W.fnOf "undone" "undone" (defArgs sUndone) (defBody sUndone) (defScope sUndone) .none kV24 dc24 pm24 an24 cd24 ct24), sl24⟩) (c24 : PySem.W.codeIn K cd24 "undone" = true) (k24 : PySem.W.keepIn K (.ref f24) = true)
    (a25 : PySem.W.nsIn K mainGlobals "undone_part" = some (some (.ref f25))) (l25 : K.lookup f25 = some ⟨oc25, od25, .func (PySem.W.fnOf "undone_part" "undone_part" (defArgs sUndone_part) (defBody sUndone_part) (defScope sUndone_part) .none kV25 dc25 pm25 an25 cd25 ct25), sl25⟩) (c25 : PySem.W.codeIn K cd25 "undone_part" = true) (k25 : PySem.W.keepIn K (.ref f25) = true)
    (a26 : PySem.W.nsIn K mainGlobals "last_first" = some (some (.ref f26))) (l26 : K.lookup f26 = some ⟨oc26, od26, .func (PySem.W.fnOf "last_first" "last_first" (defArgs sLast_first) (defBody sLast_first) (defScope sLast_first) .none kV26 dc26 pm26 an26 cd26 ct26), sl26⟩) (c26 : PySem.W.codeIn K cd26 "last_first" = true) (k26 : PySem.W.keepIn K (.ref f26) = true)
    (a27 : PySem.W.nsIn K mainGlobals "undone_step" = some (some (.ref f27))) (l27 : K.lookup f27 = some ⟨oc27, od27, .func (PySem.W.fnOf "undone_step" "undone_step" (defArgs sUndone_step) (defBody sUndone_step) (defScope sUndone_step) .none kV27 dc27 pm27 an27 cd27 ct27), sl27⟩) (c27 : PySem.W.codeIn K cd27 "undone_step" = true) (k27 : PySem.W.keepIn K (.ref f27) = true)
    (a28 : PySem.W.nsIn K mainGlobals "inverted" = some (some (.ref f28))) (l28 : K.lookup f28 = some ⟨oc28, od28, .func (PySem.W.fnOf "inverted" "inverted" (defArgs sInverted) (defBody sInverted) (defScope sInverted) .none kV28 dc28 pm28 an28 cd28 ct28), sl28⟩) (c28 : PySem.W.codeIn K cd28 "inverted" = true) (k28 : PySem.W.keepIn K (.ref f28) = true)
    (a29 : PySem.W.nsIn K mainGlobals "restored" = some (some (.ref f29))) (l29 : K.lookup f29 = some ⟨oc29, od29, .func (PySem.W.fnOf "restored" "restored" (defArgs sRestored) (defBody sRestored) (defScope sRestored) .none kV29 dc29 pm29 an29 cd29 ct29), sl29⟩) (c29 : PySem.W.codeIn K cd29 "restored" = true) (k29 : PySem.W.keepIn K (.ref f29) = true)
    (a30 : PySem.W.nsIn K mainGlobals "spanning" = some (some (.ref f30))) (l30 : K.lookup f30 = some ⟨oc30, od30, .func (PySem.W.fnOf "spanning" "spanning" (defArgs sSpanning) (defBody sSpanning) (defScope sSpanning) .none kV30 dc30 pm30 an30 cd30 ct30), sl30⟩) (c30 : PySem.W.codeIn K cd30 "spanning" = true) (k30 : PySem.W.keepIn K (.ref f30) = true)
    (a31 : PySem.W.nsIn K mainGlobals "undone_quiet_loop" = some (some (.ref f31))) (l31 : K.lookup f31 = some ⟨oc31, od31, .func (PySem.W.fnOf "undone_quiet_loop" "undone_quiet_loop" (defArgs sUndone_quiet_loop) (defBody sUndone_quiet_loop) (defScope sUndone_quiet_loop) .none kV31 dc31 pm31 an31 cd31 ct31), sl31⟩) (c31 : PySem.W.codeIn K cd31 "undone_quiet_loop" = true) (k31 : PySem.W.keepIn K (.ref f31) = true)
    (a32 : PySem.W.nsIn K mainGlobals "settled" = some (some (.ref f32))) (l32 : K.lookup f32 = some ⟨oc32, od32, .func (PySem.W.fnOf "settled" "settled" (defArgs sSettled) (defBody sSettled) (defScope sSettled) .none kV32 dc32 pm32 an32 cd32 ct32), sl32⟩) (c32 : PySem.W.codeIn K cd32 "settled" = true) (k32 : PySem.W.keepIn K (.ref f32) = true)
    (a33 : PySem.W.nsIn K mainGlobals "undone_reading_loop" = some (some (.ref f33))) (l33 : K.lookup f33 = some ⟨oc33, od33, .func (PySem.W.fnOf "undone_reading_loop" "undone_reading_loop" (defArgs sUndone_reading_loop) (defBody sUndone_reading_loop) (defScope sUndone_reading_loop) .none kV33 dc33 pm33 an33 cd33 ct33), sl33⟩) (c33 : PySem.W.codeIn K cd33 "undone_reading_loop" = true) (k33 : PySem.W.keepIn K (.ref f33) = true)
    (a34 : PySem.W.nsIn K mainGlobals "alike" = some (some (.ref f34))) (l34 : K.lookup f34 = some ⟨oc34, od34, .func (PySem.W.fnOf "alike" "alike" (defArgs sAlike) (defBody sAlike) (defScope sAlike) .none kV34 dc34 pm34 an34 cd34 ct34), sl34⟩) (c34 : PySem.W.codeIn K cd34 "alike" = true) (k34 : PySem.W.keepIn K (.ref f34) = true)
    (a35 : PySem.W.nsIn K mainGlobals "repeated" = some (some (.ref f35))) (l35 : K.lookup f35 = some ⟨oc35, od35, .func (PySem.W.fnOf "repeated" "repeated" (defArgs sRepeated) (defBody sRepeated) (defScope sRepeated) .none kV35 dc35 pm35 an35 cd35 ct35), sl35⟩) (c35 : PySem.W.codeIn K cd35 "repeated" = true) (k35 : PySem.W.keepIn K (.ref f35) = true)
    (a36 : PySem.W.nsIn K mainGlobals "_law_pot" = some (some (.ref f36))) (l36 : K.lookup f36 = some ⟨oc36, od36, .func (PySem.W.fnOf "_law_pot" "_law_pot" (defArgs sPot) (defBody sPot) (defScope sPot) .none kV36 dc36 pm36 an36 cd36 ct36), sl36⟩) (c36 : PySem.W.codeIn K cd36 "_law_pot" = true) (k36 : PySem.W.keepIn K (.ref f36) = true)
    (a37 : PySem.W.nsIn K mainGlobals "_law_take" = some (some (.ref f37))) (l37 : K.lookup f37 = some ⟨oc37, od37, .func (PySem.W.fnOf "_law_take" "_law_take" (defArgs sTake) (defBody sTake) (defScope sTake) .none kV37 dc37 pm37 an37 cd37 ct37), sl37⟩) (c37 : PySem.W.codeIn K cd37 "_law_take" = true) (k37 : PySem.W.keepIn K (.ref f37) = true)
    (a38 : PySem.W.nsIn K mainGlobals "_law_of" = some (some (.ref f38))) (l38 : K.lookup f38 = some ⟨oc38, od38, .func (PySem.W.fnOf "_law_of" "_law_of" (defArgs sOf) (defBody sOf) (defScope sOf) .none kV38 dc38 pm38 an38 cd38 ct38), sl38⟩) (c38 : PySem.W.codeIn K cd38 "_law_of" = true) (k38 : PySem.W.keepIn K (.ref f38) = true)
    (a39 : PySem.W.nsIn K mainGlobals "_law_plain" = some (some (.ref f39))) (l39 : K.lookup f39 = some ⟨oc39, od39, .func (PySem.W.fnOf "_law_plain" "_law_plain" (defArgs sPlain) (defBody sPlain) (defScope sPlain) .none kV39 dc39 pm39 an39 cd39 ct39), sl39⟩) (c39 : PySem.W.codeIn K cd39 "_law_plain" = true) (k39 : PySem.W.keepIn K (.ref f39) = true)
    (a40 : PySem.W.nsIn K mainGlobals "_law_refused" = some (some (.ref f40))) (l40 : K.lookup f40 = some ⟨oc40, od40, .func (PySem.W.fnOf "_law_refused" "_law_refused" (defArgs sRefused) (defBody sRefused) (defScope sRefused) .none kV40 dc40 pm40 an40 cd40 ct40), sl40⟩) (c40 : PySem.W.codeIn K cd40 "_law_refused" = true) (k40 : PySem.W.keepIn K (.ref f40) = true)
    (a41 : PySem.W.nsIn K mainGlobals "_law_nested" = some (some (.ref f41))) (l41 : K.lookup f41 = some ⟨oc41, od41, .func (PySem.W.fnOf "_law_nested" "_law_nested" (defArgs sNested) (defBody sNested) (defScope sNested) .none kV41 dc41 pm41 an41 cd41 ct41), sl41⟩) (c41 : PySem.W.codeIn K cd41 "_law_nested" = true) (k41 : PySem.W.keepIn K (.ref f41) = true)
    (a42 : PySem.W.nsIn K mainGlobals "_law_right" = some (some (.ref f42))) (l42 : K.lookup f42 = some ⟨oc42, od42, .func (PySem.W.fnOf "_law_right" "_law_right" (defArgs sRight) (defBody sRight) (defScope sRight) .none kV42 dc42 pm42 an42 (.ref cR) ct42), sl42⟩) (c42 : PySem.W.codeIn K (.ref cR) "_law_right" = true) (k42 : PySem.W.keepIn K (.ref f42) = true)
    (a43 : PySem.W.nsIn K mainGlobals "law" = some (some (.ref f43))) (l43 : K.lookup f43 = some ⟨oc43, od43, .func (PySem.W.fnOf "law" "law" (defArgs sLaw) (defBody sLaw) (defScope sLaw) .none kV43 dc43 pm43 an43 cd43 ct43), sl43⟩) (c43 : PySem.W.codeIn K cd43 "law" = true) (k43 : PySem.W.keepIn K (.ref f43) = true)
    (z0 : PySem.W.nsIn K mainGlobals "len" = some none)
    (z1 : PySem.W.nsIn K mainGlobals "abs" = some none)
    (z2 : PySem.W.nsIn K mainGlobals "int" = some none)
    (z3 : PySem.W.nsIn K mainGlobals "range" = some none)
    (z4 : PySem.W.nsIn K mainGlobals "max" = some none)
    (z5 : PySem.W.nsIn K mainGlobals "min" = some none)
    (z6 : PySem.W.nsIn K mainGlobals "all" = some none)
    (z7 : PySem.W.nsIn K mainGlobals "sum" = some none)
    (z8 : PySem.W.nsIn K mainGlobals "list" = some none)
    (z9 : PySem.W.nsIn K mainGlobals "tuple" = some none)
    (z10 : PySem.W.nsIn K mainGlobals "isinstance" = some none)
    (z11 : PySem.W.nsIn K mainGlobals "bool" = some none)
    (z12 : PySem.W.nsIn K mainGlobals "repr" = some none)
    (z13 : PySem.W.nsIn K mainGlobals "enumerate" = some none)
    (z14 : PySem.W.nsIn K mainGlobals "zip" = some none)
    (z15 : PySem.W.nsIn K mainGlobals "divmod" = some none)
    (y0 : PySem.W.nsIn K mainGlobals "sorted" = some none)
    (y1 : PySem.W.nsIn K mainGlobals "reversed" = some none)
    {tk0 : Tok} (v0 : PySem.W.nsIn K mainGlobals "MAX_SIZE" = some (some (.int 40 tk0)))
    {tk1 : Tok} (v1 : PySem.W.nsIn K mainGlobals "MAX_DEPTH" = some (some (.int 2 tk1)))
    {CT fTTrack_init CP fPPart_init fPPart_after fPPart_before fPPart_factors fPPart_binary fPPart_square fPPart_behind_body : Addr} {odTTrack_init anTTrack_init odPPart_init anPPart_init odPPart_after anPPart_after odPPart_before anPPart_before odPPart_factors anPPart_factors odPPart_binary anPPart_binary odPPart_square anPPart_square odPPart_behind_body anPPart_behind_body : Option Addr} {slTTrack_init slPPart_init slPPart_after slPPart_before slPPart_factors slPPart_binary slPPart_square slPPart_behind_body : Array (Option Value)} {ocTTrack_init kVTTrack_init dcTTrack_init pmTTrack_init cdTTrack_init ctTTrack_init ocPPart_init kVPPart_init dcPPart_init pmPPart_init cdPPart_init ctPPart_init ocPPart_after kVPPart_after dcPPart_after pmPPart_after cdPPart_after ctPPart_after ocPPart_before kVPPart_before dcPPart_before pmPPart_before cdPPart_before ctPPart_before ocPPart_factors kVPPart_factors dcPPart_factors pmPPart_factors cdPPart_factors ctPPart_factors ocPPart_binary kVPPart_binary dcPPart_binary pmPPart_binary cdPPart_binary ctPPart_binary ocPPart_square kVPPart_square dcPPart_square pmPPart_square cdPPart_square ctPPart_square ocPPart_behind_body kVPPart_behind_body dcPPart_behind_body pmPPart_behind_body cdPPart_behind_body ctPPart_behind_body : Value}
    (aCT : PySem.W.nsIn K mainGlobals "Track" = some (some (.ref CT)))
    (aTTrack_init : PySem.W.findIn K (.ref CT) "__init__" = some (some (.ref fTTrack_init))) (iTTrack_init : PySem.W.isFn K (.ref fTTrack_init) = true) (lTTrack_init : K.lookup fTTrack_init = some ⟨ocTTrack_init, odTTrack_init, .func (PySem.W.fnOf "__init__" "Track.__init__" (defArgs sTrack_init) (defBody sTrack_init) (defScope sTrack_init) .none kVTTrack_init dcTTrack_init pmTTrack_init anTTrack_init cdTTrack_init ctTTrack_init), slTTrack_init⟩) (cTTrack_init : PySem.W.codeIn K cdTTrack_init "Track.__init__" = true) (kTTrack_init : PySem.W.keepIn K (.ref fTTrack_init) = true)
    (pgT : PySem.W.plainGet K CT Str.empty = true) (hdT : PySem.W.hasDictIn K CT = true) (poT : PySem.W.plainOver K CT = true) (saT : PySem.W.findIn K (.ref CT) "__setattr__" = some (some (.builtin "object.__setattr__"))) (mkT : PySem.W.makesIn K CT = true) (kcT : PySem.W.keepIn K (.ref CT) = true)
    (nT0 : PySem.W.findIn K (.ref CT) "p" = some none)
    (nT1 : PySem.W.findIn K (.ref CT) "n" = some none)
    (nT2 : PySem.W.findIn K (.ref CT) "parts" = some none)
    (nT3 : PySem.W.findIn K (.ref CT) "steps" = some none)
    (nT4 : PySem.W.findIn K (.ref CT) "reads" = some none)
    (nT5 : PySem.W.findIn K (.ref CT) "loud" = some none)
    (aCP : PySem.W.nsIn K mainGlobals "Part" = some (some (.ref CP)))
    (aPPart_init : PySem.W.findIn K (.ref CP) "__init__" = some (some (.ref fPPart_init))) (iPPart_init : PySem.W.isFn K (.ref fPPart_init) = true) (lPPart_init : K.lookup fPPart_init = some ⟨ocPPart_init, odPPart_init, .func (PySem.W.fnOf "__init__" "Part.__init__" (defArgs sPart_init) (defBody sPart_init) (defScope sPart_init) .none kVPPart_init dcPPart_init pmPPart_init anPPart_init cdPPart_init ctPPart_init), slPPart_init⟩) (cPPart_init : PySem.W.codeIn K cdPPart_init "Part.__init__" = true) (kPPart_init : PySem.W.keepIn K (.ref fPPart_init) = true)
    (aPPart_after : PySem.W.findIn K (.ref CP) "after" = some (some (.ref fPPart_after))) (iPPart_after : PySem.W.isFn K (.ref fPPart_after) = true) (lPPart_after : K.lookup fPPart_after = some ⟨ocPPart_after, odPPart_after, .func (PySem.W.fnOf "after" "Part.after" (defArgs sPart_after) (defBody sPart_after) (defScope sPart_after) .none kVPPart_after dcPPart_after pmPPart_after anPPart_after cdPPart_after ctPPart_after), slPPart_after⟩) (cPPart_after : PySem.W.codeIn K cdPPart_after "Part.after" = true) (kPPart_after : PySem.W.keepIn K (.ref fPPart_after) = true)
    (aPPart_before : PySem.W.findIn K (.ref CP) "before" = some (some (.ref fPPart_before))) (iPPart_before : PySem.W.isFn K (.ref fPPart_before) = true) (lPPart_before : K.lookup fPPart_before = some ⟨ocPPart_before, odPPart_before, .func (PySem.W.fnOf "before" "Part.before" (defArgs sPart_before) (defBody sPart_before) (defScope sPart_before) .none kVPPart_before dcPPart_before pmPPart_before anPPart_before cdPPart_before ctPPart_before), slPPart_before⟩) (cPPart_before : PySem.W.codeIn K cdPPart_before "Part.before" = true) (kPPart_before : PySem.W.keepIn K (.ref fPPart_before) = true)
    (aPPart_factors : PySem.W.findIn K (.ref CP) "factors" = some (some (.ref fPPart_factors))) (iPPart_factors : PySem.W.isFn K (.ref fPPart_factors) = true) (lPPart_factors : K.lookup fPPart_factors = some ⟨ocPPart_factors, odPPart_factors, .func (PySem.W.fnOf "factors" "Part.factors" (defArgs sPart_factors) (defBody sPart_factors) (defScope sPart_factors) .none kVPPart_factors dcPPart_factors pmPPart_factors anPPart_factors cdPPart_factors ctPPart_factors), slPPart_factors⟩) (cPPart_factors : PySem.W.codeIn K cdPPart_factors "Part.factors" = true) (kPPart_factors : PySem.W.keepIn K (.ref fPPart_factors) = true)
    (aPPart_binary : PySem.W.findIn K (.ref CP) "binary" = some (some (.ref fPPart_binary))) (iPPart_binary : PySem.W.isFn K (.ref fPPart_binary) = true) (lPPart_binary : K.lookup fPPart_binary = some ⟨ocPPart_binary, odPPart_binary, .func (PySem.W.fnOf "binary" "Part.binary" (defArgs sPart_binary) (defBody sPart_binary) (defScope sPart_binary) .none kVPPart_binary dcPPart_binary pmPPart_binary anPPart_binary cdPPart_binary ctPPart_binary), slPPart_binary⟩) (cPPart_binary : PySem.W.codeIn K cdPPart_binary "Part.binary" = true) (kPPart_binary : PySem.W.keepIn K (.ref fPPart_binary) = true)
    (aPPart_square : PySem.W.findIn K (.ref CP) "square" = some (some (.ref fPPart_square))) (iPPart_square : PySem.W.isFn K (.ref fPPart_square) = true) (lPPart_square : K.lookup fPPart_square = some ⟨ocPPart_square, odPPart_square, .func (PySem.W.fnOf "square" "Part.square" (defArgs sPart_square) (defBody sPart_square) (defScope sPart_square) .none kVPPart_square dcPPart_square pmPPart_square anPPart_square cdPPart_square ctPPart_square), slPPart_square⟩) (cPPart_square : PySem.W.codeIn K cdPPart_square "Part.square" = true) (kPPart_square : PySem.W.keepIn K (.ref fPPart_square) = true)
    (aPPart_behind_body : PySem.W.findIn K (.ref CP) "behind_body" = some (some (.ref fPPart_behind_body))) (iPPart_behind_body : PySem.W.isFn K (.ref fPPart_behind_body) = true) (lPPart_behind_body : K.lookup fPPart_behind_body = some ⟨ocPPart_behind_body, odPPart_behind_body, .func (PySem.W.fnOf "behind_body" "Part.behind_body" (defArgs sPart_behind_body) (defBody sPart_behind_body) (defScope sPart_behind_body) .none kVPPart_behind_body dcPPart_behind_body pmPPart_behind_body anPPart_behind_body cdPPart_behind_body ctPPart_behind_body), slPPart_behind_body⟩) (cPPart_behind_body : PySem.W.codeIn K cdPPart_behind_body "Part.behind_body" = true) (kPPart_behind_body : PySem.W.keepIn K (.ref fPPart_behind_body) = true)
    (pgP : PySem.W.plainGet K CP Str.empty = true) (hdP : PySem.W.hasDictIn K CP = true) (poP : PySem.W.plainOver K CP = true) (saP : PySem.W.findIn K (.ref CP) "__setattr__" = some (some (.builtin "object.__setattr__"))) (mkP : PySem.W.makesIn K CP = true) (kcP : PySem.W.keepIn K (.ref CP) = true)
    (nP0 : PySem.W.findIn K (.ref CP) "p" = some none)
    (nP1 : PySem.W.findIn K (.ref CP) "n" = some none)
    (nP2 : PySem.W.findIn K (.ref CP) "instruction" = some none)
    (nP3 : PySem.W.findIn K (.ref CP) "steps" = some none)
    (nP4 : PySem.W.findIn K (.ref CP) "body" = some none)
    (nP5 : PySem.W.findIn K (.ref CP) "squares" = some none)
    (nP6 : PySem.W.findIn K (.ref CP) "whole" = some none)
    {CJ CB CL fL NL cdaL ccL CD fD ND cdaD ccD : Addr} {ddL odL anL cddL cldL ddD odD anD cddD cldD : Option Addr} {slL ccsL cslL slD ccsD cslD : Array (Option Value)} {ocL dcL pmL ctL cclL clL ocD dcD pmD ctD cclD clD : Value} {nmL qL fileL nmD qD fileD : Str} {tfL tfD : Tok} {bsL subL bsD subD : List Value}
    (aEJ : PySem.W.nsIn K mainGlobals "JournalError" = some (some (.ref CJ))) (eEJ : PySem.W.subIn K (.ref CJ) (.type "BaseException") = some true) (hEJ : PySem.W.hasDictIn K CJ = true) (yEJ : PySem.W.typeIn K (.ref CJ) = some (.type "type"))
    (zsu : PySem.W.nsIn K mainGlobals "super" = some none) (zve : PySem.W.nsIn K mainGlobals "ValueError" = some none) (zop : PySem.W.nsIn K PySem.cStatics "thirdparty.any" = some none) (ztp : (l.prog.main.scope.names.lookup ("super" : Str)).isSome = false)
    (aEB : PySem.W.nsIn K mainGlobals "BadProgram" = some (some (.ref CB)))
    {snL : List Str} {abL : Bool} {colL : Option Bool} {m0L m1L m2L m3L m5L : Option Value} {vsL : Array Value}
    (aEL : PySem.W.nsIn K mainGlobals "TooLong" = some (some (.ref CL))) (xEL : K.lookup CL = some (excClassObj nmL qL CL NL bsL [.ref CJ, .type "ValueError", .type "Exception", .type "BaseException", .type "object"] true snL subL abL colL ddL m0L m1L m2L m3L m5L "ValueError.__new__")) (saEL : PySem.W.findIn K (.ref CL) "__setattr__" = some (some (.builtin "object.__setattr__"))) (gEL1 : PySem.W.findIn K (.ref CL) "__getattribute__" = some (some (.builtin "BaseException.__getattribute__"))) (gEL2 : PySem.W.findIn K (.ref CL) "__getattr__" = some none) (nEL : PySem.W.findIn K (.ref CL) "size" = some none) (iEL : PySem.W.findIn K (.ref CL) "__init__" = some (some (.ref fL))) (tEL : PySem.W.typeIn K (.ref fL) = some (.type "function")) (kEL : PySem.W.keepIn K (.ref CL) = true) (eEL : PySem.W.subIn K (.ref CL) (.type "BaseException") = some true) (vEL : PySem.W.subIn K (.ref CL) (.type "ValueError") = some true) (yEL : PySem.W.typeIn K (.ref CL) = some (.type "type")) (hEL : PySem.W.hasDictIn K CL = true) (rEL : PySem.W.mroIn K CL (.ref CL) = some true) (uEL : PySem.W.ks_superIn K CL CL "__init__" = some (some (.builtin "ValueError.__init__"))) (lEL : K.lookup fL = some ⟨ocL, odL, .func (PySem.W.ksFn "__init__" "TooLong.__init__" (defArgs sEL) (defBody sEL) (defScope sEL) .none .none dcL pmL anL (.ref cdaL) ctL ccL), slL⟩) (cEL : PySem.W.codeIn K (.ref cdaL) "TooLong.__init__" = true) (dEL : K.lookup cdaL = some ⟨cclL, cddL, .fields vsL, ccsL⟩) (wEL : vsL[2]? = some (.str fileL tfL)) (oEL : ((l.prog.main.file : Str) == fileL) = true) (qEL : K.lookup ccL = some ⟨clL, cldL, .cell (some (.ref CL)), cslL⟩) (jEL : PySem.W.subIn K (.ref CL) (.ref CJ) = some true) (bEL1 : PySem.W.findIn K (.ref CL) "__class__" = some (some (.builtin "object.__class__"))) (bEL2 : PySem.W.specialIn K (.builtin "object.__class__") "__get__" = some (some (.builtin "getset_descriptor.__get__"))) (bEL3 : PySem.W.takesIn K (.builtin "object.__class__") = some true) (bEL4 : PySem.W.mroIn K CL (.type "object") = some true)
    {snD : List Str} {abD : Bool} {colD : Option Bool} {m0D m1D m2D m3D m5D : Option Value} {vsD : Array Value}
    (aED : PySem.W.nsIn K mainGlobals "TooDeep" = some (some (.ref CD))) (xED : K.lookup CD = some (excClassObj nmD qD CD ND bsD [.ref CJ, .type "ValueError", .type "Exception", .type "BaseException", .type "object"] true snD subD abD colD ddD m0D m1D m2D m3D m5D "ValueError.__new__")) (saED : PySem.W.findIn K (.ref CD) "__setattr__" = some (some (.builtin "object.__setattr__"))) (gED1 : PySem.W.findIn K (.ref CD) "__getattribute__" = some (some (.builtin "BaseException.__getattribute__"))) (gED2 : PySem.W.findIn K (.ref CD) "__getattr__" = some none) (nED : PySem.W.findIn K (.ref CD) "depth" = some none) (iED : PySem.W.findIn K (.ref CD) "__init__" = some (some (.ref fD))) (tED : PySem.W.typeIn K (.ref fD) = some (.type "function")) (kED : PySem.W.keepIn K (.ref CD) = true) (eED : PySem.W.subIn K (.ref CD) (.type "BaseException") = some true) (vED : PySem.W.subIn K (.ref CD) (.type "ValueError") = some true) (yED : PySem.W.typeIn K (.ref CD) = some (.type "type")) (hED : PySem.W.hasDictIn K CD = true) (rED : PySem.W.mroIn K CD (.ref CD) = some true) (uED : PySem.W.ks_superIn K CD CD "__init__" = some (some (.builtin "ValueError.__init__"))) (lED : K.lookup fD = some ⟨ocD, odD, .func (PySem.W.ksFn "__init__" "TooDeep.__init__" (defArgs sED) (defBody sED) (defScope sED) .none .none dcD pmD anD (.ref cdaD) ctD ccD), slD⟩) (cED : PySem.W.codeIn K (.ref cdaD) "TooDeep.__init__" = true) (dED : K.lookup cdaD = some ⟨cclD, cddD, .fields vsD, ccsD⟩) (wED : vsD[2]? = some (.str fileD tfD)) (oED : ((l.prog.main.file : Str) == fileD) = true) (qED : K.lookup ccD = some ⟨clD, cldD, .cell (some (.ref CD)), cslD⟩) (jED : PySem.W.subIn K (.ref CD) (.ref CJ) = some true) (bED1 : PySem.W.findIn K (.ref CD) "__class__" = some (some (.builtin "object.__class__"))) (bED2 : PySem.W.specialIn K (.builtin "object.__class__") "__get__" = some (some (.builtin "getset_descriptor.__get__"))) (bED3 : PySem.W.takesIn K (.builtin "object.__class__") = some true) (bED4 : PySem.W.mroIn K CD (.type "object") = some true)
    (kLB : PySem.W.kitOne K (.ref CL) (.ref CB) = some false)
    (kDB : PySem.W.kitOne K (.ref CD) (.ref CB) = some false)
    (kLD : PySem.W.kitOne K (.ref CL) (.ref CD) = some false)
    (kDL : PySem.W.kitOne K (.ref CD) (.ref CL) = some false)
    {TR : Addr} {eR : Value} {edR : Option Addr} {vsR : Array Value} {eslR : Array (Option Value)} (dR : K.lookup cR = some ⟨eR, edR, .fields vsR, eslR⟩) (wR : vsR[11]? = some (.ref TR)) (nR : K.lookup TR = none)
    : ∃ (fd : FuncData) (c T : Addr), PySem.W.CodeHd h c T ∧ h.get? T = some { cls := .none, data := .fields #[] } ∧ K.lookup T = none ∧ (∀ (s : Shared) (v : Value), BindsTo s fd ⟨[v], []⟩ [("_law_script", v)]) ∧ ∀ base : Heap, K.In base → base.Ns mainGlobals mg → LamX.TabB base mg c T → FnG l.prog w K mg base 26 fa fd ["_law_script"] (spLawT K T) := by
  have FInverse := fun_mk (st := sInverse) l0 c0 k0
  have AInverse : At K mg "inverse" sInverse ["p", "a"] := ⟨_, _, FInverse, FInverse.binds (ps := ["p", "a"]) fun _ _ _ _ _ _ us hl => match us, hl with | [_, _], _ => rfl, PySem.W.mg_of X G a0⟩
  have FPrank := fun_mk (st := sPrank) l1 c1 k1
  have APrank : At K mg "rank" sPrank ["p", "rows"] := ⟨_, _, FPrank, FPrank.binds (ps := ["p", "rows"]) fun _ _ _ _ _ _ us hl => match us, hl with | [_, _], _ => rfl, PySem.W.mg_of X G a1⟩
  have FWeights := fun_mk (st := sWeights) l2 c2 k2
  have AWeights : At K mg "weights" sWeights ["p", "rows", "row"] := ⟨_, _, FWeights, FWeights.binds (ps := ["p", "rows", "row"]) fun _ _ _ _ _ _ us hl => match us, hl with | [_, _, _], _ => rfl, PySem.W.mg_of X G a2⟩
  have FEquations := fun_mk (st := sEquations) l3 c3 k3
  have AEquations : At K mg "equations" sEquations ["rows", "row"] := ⟨_, _, FEquations, FEquations.binds (ps := ["rows", "row"]) fun _ _ _ _ _ _ us hl => match us, hl with | [_, _], _ => rfl, PySem.W.mg_of X G a3⟩
  have FEchelon := fun_mk (st := sEchelon) l4 c4 k4
  have AEchelon : At K mg "echelon" sEchelon ["p", "rows"] := ⟨_, _, FEchelon, FEchelon.binds (ps := ["p", "rows"]) fun _ _ _ _ _ _ us hl => match us, hl with | [_, _], _ => rfl, PySem.W.mg_of X G a4⟩
  have FTimes := fun_mk (st := sTimes) l5 c5 k5
  have ATimes : At K mg "times" sTimes ["p", "factor", "row"] := ⟨_, _, FTimes, FTimes.binds (ps := ["p", "factor", "row"]) fun _ _ _ _ _ _ us hl => match us, hl with | [_, _, _], _ => rfl, PySem.W.mg_of X G a5⟩
  have FLess := fun_mk (st := sLess) l6 c6 k6
  have ALess : At K mg "less" sLess ["p", "row", "factor", "other"] := ⟨_, _, FLess, FLess.binds (ps := ["p", "row", "factor", "other"]) fun _ _ _ _ _ _ us hl => match us, hl with | [_, _, _, _], _ => rfl, PySem.W.mg_of X G a6⟩
  have FDot := fun_mk (st := sDot) l7 c7 k7
  have ADot : At K mg "dot" sDot ["p", "row", "other"] := ⟨_, _, FDot, FDot.binds (ps := ["p", "row", "other"]) fun _ _ _ _ _ _ us hl => match us, hl with | [_, _, _], _ => rfl, PySem.W.mg_of X G a7⟩
  have FSize := fun_mk (st := sSize) l8 c8 k8
  have ASize : At K mg "size" sSize ["program"] := ⟨_, _, FSize, FSize.binds (ps := ["program"]) fun _ _ _ _ _ _ us hl => match us, hl with | [_], _ => rfl, PySem.W.mg_of X G a8⟩
  have FDepth := fun_mk (st := sDepth) l9 c9 k9
  have ADepth : At K mg "depth" sDepth ["program"] := ⟨_, _, FDepth, FDepth.binds (ps := ["program"]) fun _ _ _ _ _ _ us hl => match us, hl with | [_], _ => rfl, PySem.W.mg_of X G a9⟩
  have FRead_count := fun_mk (st := sRead_count) l10 c10 k10
  have ARead_count : At K mg "read_count" sRead_count ["program"] := ⟨_, _, FRead_count, FRead_count.binds (ps := ["program"]) fun _ _ _ _ _ _ us hl => match us, hl with | [_], _ => rfl, PySem.W.mg_of X G a10⟩
  have FWrite_count := fun_mk (st := sWrite_count) l11 c11 k11
  have AWrite_count : At K mg "write_count" sWrite_count ["program"] := ⟨_, _, FWrite_count, FWrite_count.binds (ps := ["program"]) fun _ _ _ _ _ _ us hl => match us, hl with | [_], _ => rfl, PySem.W.mg_of X G a11⟩
  have FWord_count := fun_mk (st := sWord_count) l12 c12 k12
  have AWord_count : At K mg "word_count" sWord_count ["program", "word"] := ⟨_, _, FWord_count, FWord_count.binds (ps := ["program", "word"]) fun _ _ _ _ _ _ us hl => match us, hl with | [_, _], _ => rfl, PySem.W.mg_of X G a12⟩
  have FUnit := fun_mk (st := sUnit) l13 c13 k13
  have AUnit : At K mg "unit" sUnit ["many", "place"] := ⟨_, _, FUnit, FUnit.binds (ps := ["many", "place"]) fun _ _ _ _ _ _ us hl => match us, hl with | [_, _], _ => rfl, PySem.W.mg_of X G a13⟩
  have FOverwritten := fun_mk (st := sOverwritten) l14 c14 k14
  have AOverwritten : At K mg "overwritten" sOverwritten ["instruction"] := ⟨_, _, FOverwritten, FOverwritten.binds (ps := ["instruction"]) fun _ _ _ _ _ _ us hl => match us, hl with | [_], _ => rfl, PySem.W.mg_of X G a14⟩
  have FCleared := fun_mk (st := sCleared) l15 c15 k15
  have ACleared : At K mg "cleared" sCleared ["row", "x"] := ⟨_, _, FCleared, FCleared.binds (ps := ["row", "x"]) fun _ _ _ _ _ _ us hl => match us, hl with | [_, _], _ => rfl, PySem.W.mg_of X G a15⟩
  have FPexecuted := fun_mk (st := sPexecuted) l16 c16 k16
  have APexecuted : At K mg "executed" sPexecuted ["p", "instruction", "row"] := ⟨_, _, FPexecuted, FPexecuted.binds (ps := ["p", "instruction", "row"]) fun _ _ _ _ _ _ us hl => match us, hl with | [_, _, _], _ => rfl, PySem.W.mg_of X G a16⟩
  have FUnits := fun_mk (st := sUnits) l17 c17 k17
  have AUnits : At K mg "units" sUnits ["n"] := ⟨_, _, FUnits, FUnits.binds (ps := ["n"]) fun _ _ _ _ _ _ us hl => match us, hl with | [_], _ => rfl, PySem.W.mg_of X G a17⟩
  have FProduct := fun_mk (st := sProduct) l18 c18 k18
  have AProduct : At K mg "product" sProduct ["p", "row", "matrix"] := ⟨_, _, FProduct, FProduct.binds (ps := ["p", "row", "matrix"]) fun _ _ _ _ _ _ us hl => match us, hl with | [_, _, _], _ => rfl, PySem.W.mg_of X G a18⟩
  have FPieces := fun_mk (st := sPieces) l19 c19 k19
  have APieces : At K mg "pieces" sPieces ["track", "start", "stop"] := ⟨_, _, FPieces, FPieces.binds (ps := ["track", "start", "stop"]) fun _ _ _ _ _ _ us hl => match us, hl with | [_, _, _], _ => rfl, PySem.W.mg_of X G a19⟩
  have FGather := fun_mk (st := sGather) l20 c20 k20
  have AGather : At K mg "gather" sGather ["track", "start", "stop", "offset", "found"] := ⟨_, _, FGather, FGather.binds (ps := ["track", "start", "stop", "offset", "found"]) fun _ _ _ _ _ _ us hl => match us, hl with | [_, _, _, _, _], _ => rfl, PySem.W.mg_of X G a20⟩
  have FGather_part := fun_mk (st := sGather_part) l21 c21 k21
  have AGather_part : At K mg "gather_part" sGather_part ["part", "low", "high", "offset", "found"] := ⟨_, _, FGather_part, FGather_part.binds (ps := ["part", "low", "high", "offset", "found"]) fun _ _ _ _ _ _ us hl => match us, hl with | [_, _, _, _, _], _ => rfl, PySem.W.mg_of X G a21⟩
  have FBackward := fun_mk (st := sBackward) l22 c22 k22
  have ABackward : At K mg "backward" sBackward ["p", "n", "program"] := ⟨_, _, FBackward, FBackward.binds (ps := ["p", "n", "program"]) fun _ _ _ _ _ _ us hl => match us, hl with | [_, _, _], _ => rfl, PySem.W.mg_of X G a22⟩
  have FSilent := fun_mk (st := sSilent) l23 c23 k23
  have ASilent : At K mg "silent" sSilent ["program"] := ⟨_, _, FSilent, FSilent.binds (ps := ["program"]) fun _ _ _ _ _ _ us hl => match us, hl with | [_], _ => rfl, PySem.W.mg_of X G a23⟩
  have FUndone := fun_mk (st := sUndone) l24 c24 k24
  have AUndone : At K mg "undone" sUndone ["track", "rows"] := ⟨_, _, FUndone, FUndone.binds (ps := ["track", "rows"]) fun _ _ _ _ _ _ us hl => match us, hl with | [_, _], _ => rfl, PySem.W.mg_of X G a24⟩
  have FUndone_part := fun_mk (st := sUndone_part) l25 c25 k25
  have AUndone_part : At K mg "undone_part" sUndone_part ["part", "rows"] := ⟨_, _, FUndone_part, FUndone_part.binds (ps := ["part", "rows"]) fun _ _ _ _ _ _ us hl => match us, hl with | [_, _], _ => rfl, PySem.W.mg_of X G a25⟩
  have FLast_first := fun_mk (st := sLast_first) l26 c26 k26
  have ALast_first : At K mg "last_first" sLast_first ["groups"] := ⟨_, _, FLast_first, FLast_first.binds (ps := ["groups"]) fun _ _ _ _ _ _ us hl => match us, hl with | [_], _ => rfl, PySem.W.mg_of X G a26⟩
  have FUndone_step := fun_mk (st := sUndone_step) l27 c27 k27
  have AUndone_step : At K mg "undone_step" sUndone_step ["p", "instruction", "rows"] := ⟨_, _, FUndone_step, FUndone_step.binds (ps := ["p", "instruction", "rows"]) fun _ _ _ _ _ _ us hl => match us, hl with | [_, _, _], _ => rfl, PySem.W.mg_of X G a27⟩
  have FInverted := fun_mk (st := sInverted) l28 c28 k28
  have AInverted : At K mg "inverted" sInverted ["p", "instruction"] := ⟨_, _, FInverted, FInverted.binds (ps := ["p", "instruction"]) fun _ _ _ _ _ _ us hl => match us, hl with | [_, _], _ => rfl, PySem.W.mg_of X G a28⟩
  have FRestored := fun_mk (st := sRestored) l29 c29 k29
  have ARestored : At K mg "restored" sRestored ["p", "rows", "x"] := ⟨_, _, FRestored, FRestored.binds (ps := ["p", "rows", "x"]) fun _ _ _ _ _ _ us hl => match us, hl with | [_, _, _], _ => rfl, PySem.W.mg_of X G a29⟩
  have FSpanning := fun_mk (st := sSpanning) l30 c30 k30
  have ASpanning : At K mg "spanning" sSpanning ["p", "rows"] := ⟨_, _, FSpanning, FSpanning.binds (ps := ["p", "rows"]) fun _ _ _ _ _ _ us hl => match us, hl with | [_, _], _ => rfl, PySem.W.mg_of X G a30⟩
  have FUndone_quiet_loop := fun_mk (st := sUndone_quiet_loop) l31 c31 k31
  have AUndone_quiet_loop : At K mg "undone_quiet_loop" sUndone_quiet_loop ["part", "rows"] := ⟨_, _, FUndone_quiet_loop, FUndone_quiet_loop.binds (ps := ["part", "rows"]) fun _ _ _ _ _ _ us hl => match us, hl with | [_, _], _ => rfl, PySem.W.mg_of X G a31⟩
  have FSettled := fun_mk (st := sSettled) l32 c32 k32
  have ASettled : At K mg "settled" sSettled ["part"] := ⟨_, _, FSettled, FSettled.binds (ps := ["part"]) fun _ _ _ _ _ _ us hl => match us, hl with | [_], _ => rfl, PySem.W.mg_of X G a32⟩
  have FUndone_reading_loop := fun_mk (st := sUndone_reading_loop) l33 c33 k33
  have AUndone_reading_loop : At K mg "undone_reading_loop" sUndone_reading_loop ["part", "rows"] := ⟨_, _, FUndone_reading_loop, FUndone_reading_loop.binds (ps := ["part", "rows"]) fun _ _ _ _ _ _ us hl => match us, hl with | [_, _], _ => rfl, PySem.W.mg_of X G a33⟩
  have FAlike := fun_mk (st := sAlike) l34 c34 k34
  have AAlike : At K mg "alike" sAlike ["p", "one", "other"] := ⟨_, _, FAlike, FAlike.binds (ps := ["p", "one", "other"]) fun _ _ _ _ _ _ us hl => match us, hl with | [_, _, _], _ => rfl, PySem.W.mg_of X G a34⟩
  have FRepeated := fun_mk (st := sRepeated) l35 c35 k35
  have ARepeated : At K mg "repeated" sRepeated ["rounds", "body"] := ⟨_, _, FRepeated, FRepeated.binds (ps := ["rounds", "body"]) fun _ _ _ _ _ _ us hl => match us, hl with | [_, _], _ => rfl, PySem.W.mg_of X G a35⟩
  have FPot := fun_mk (st := sPot) l36 c36 k36
  have APot : At K mg "_law_pot" sPot ["_law_script", "_law_k"] := ⟨_, _, FPot, FPot.binds (ps := ["_law_script", "_law_k"]) fun _ _ _ _ _ _ us hl => match us, hl with | [_, _], _ => rfl, PySem.W.mg_of X G a36⟩
  have FTake := fun_mk (st := sTake) l37 c37 k37
  have ATake : At K mg "_law_take" sTake ["_law_pot_here", "_law_many"] := ⟨_, _, FTake, FTake.binds (ps := ["_law_pot_here", "_law_many"]) fun _ _ _ _ _ _ us hl => match us, hl with | [_, _], _ => rfl, PySem.W.mg_of X G a37⟩
  have FOf := fun_mk (st := sOf) l38 c38 k38
  have AOf : At K mg "_law_of" sOf ["_law_pot_here", "_law_some"] := ⟨_, _, FOf, FOf.binds (ps := ["_law_pot_here", "_law_some"]) fun _ _ _ _ _ _ us hl => match us, hl with | [_, _], _ => rfl, PySem.W.mg_of X G a38⟩
  have FPlain := fun_mk (st := sPlain) l39 c39 k39
  have APlain : At K mg "_law_plain" sPlain ["_law_pot_here", "_law_prime", "_law_wide", "_law_words"] := ⟨_, _, FPlain, FPlain.binds (ps := ["_law_pot_here", "_law_prime", "_law_wide", "_law_words"]) fun _ _ _ _ _ _ us hl => match us, hl with | [_, _, _, _], _ => rfl, PySem.W.mg_of X G a39⟩
  have FRefused := fun_mk (st := sRefused) l40 c40 k40
  have ARefused : At K mg "_law_refused" sRefused ["_law_call"] := ⟨_, _, FRefused, FRefused.binds (ps := ["_law_call"]) fun _ _ _ _ _ _ us hl => match us, hl with | [_], _ => rfl, PySem.W.mg_of X G a40⟩
  have FNested := fun_mk (st := sNested) l41 c41 k41
  have ANested : At K mg "_law_nested" sNested ["_law_pot_here", "_law_deep", "_law_rounds"] := ⟨_, _, FNested, FNested.binds (ps := ["_law_pot_here", "_law_deep", "_law_rounds"]) fun _ _ _ _ _ _ us hl => match us, hl with | [_, _, _], _ => rfl, PySem.W.mg_of X G a41⟩
  have FRight := fun_mk (st := sRight) l42 c42 k42
  have ARight : At K mg "_law_right" sRight ["_law_pot_here"] := ⟨_, _, FRight, FRight.binds (ps := ["_law_pot_here"]) fun _ _ _ _ _ _ us hl => match us, hl with | [_], _ => rfl, PySem.W.mg_of X G a42⟩
  have FLaw := fun_mk (st := sLaw) l43 c43 k43
  have ALaw : At K mg "law" sLaw ["_law_script"] := ⟨_, _, FLaw, FLaw.binds (ps := ["_law_script"]) fun _ _ _ _ _ _ us hl => match us, hl with | [_], _ => rfl, PySem.W.mg_of X G a43⟩
  have FTTrack_init := fun_mk (st := sTrack_init) lTTrack_init cTTrack_init kTTrack_init
  have bTTrack_init := FTTrack_init.binds (ps := ["self", "p", "n", "program"]) fun _ _ _ _ _ _ us hl => match us, hl with | [_, _, _, _], _ => rfl
  have gCT := PySem.W.mg_of X G aCT
  have FPPart_init := fun_mk (st := sPart_init) lPPart_init cPPart_init kPPart_init
  have bPPart_init := FPPart_init.binds (ps := ["self", "p", "n", "instruction"]) fun _ _ _ _ _ _ us hl => match us, hl with | [_, _, _, _], _ => rfl
  have FPPart_after := fun_mk (st := sPart_after) lPPart_after cPPart_after kPPart_after
  have bPPart_after := FPPart_after.binds (ps := ["self", "rounds", "row"]) fun _ _ _ _ _ _ us hl => match us, hl with | [_, _, _], _ => rfl
  have FPPart_before := fun_mk (st := sPart_before) lPPart_before cPPart_before kPPart_before
  have bPPart_before := FPPart_before.binds (ps := ["self", "rounds", "row"]) fun _ _ _ _ _ _ us hl => match us, hl with | [_, _, _], _ => rfl
  have FPPart_factors := fun_mk (st := sPart_factors) lPPart_factors cPPart_factors kPPart_factors
  have bPPart_factors := FPPart_factors.binds (ps := ["self", "rounds"]) fun _ _ _ _ _ _ us hl => match us, hl with | [_, _], _ => rfl
  have FPPart_binary := fun_mk (st := sPart_binary) lPPart_binary cPPart_binary kPPart_binary
  have bPPart_binary := FPPart_binary.binds (ps := ["self", "rounds"]) fun _ _ _ _ _ _ us hl => match us, hl with | [_, _], _ => rfl
  have FPPart_square := fun_mk (st := sPart_square) lPPart_square cPPart_square kPPart_square
  have bPPart_square := FPPart_square.binds (ps := ["self", "at"]) fun _ _ _ _ _ _ us hl => match us, hl with | [_, _], _ => rfl
  have FPPart_behind_body := fun_mk (st := sPart_behind_body) lPPart_behind_body cPPart_behind_body kPPart_behind_body
  have bPPart_behind_body := FPPart_behind_body.binds (ps := ["self", "row"]) fun _ _ _ _ _ _ us hl => match us, hl with | [_, _], _ => rfl
  have gCP := PySem.W.mg_of X G aCP
  have gEJ := PySem.W.mg_of X G aEJ
  have gSU := PySem.W.mg_none_of X G zsu
  have gVE := PySem.W.mg_none_of X G zve
  have gEB := PySem.W.mg_of X G aEB
  have gEL := PySem.W.mg_of X G aEL
  rw [show defArgs sEL = (eA "size" ⟨11, 17, 11, 21⟩ ⟨11, 23, 11, 27⟩) from rfl, show defBody sEL = (eB "size" "too many steps or instructions" ⟨12, 8, 12, 13⟩ ⟨12, 8, 12, 15⟩ ⟨12, 8, 12, 24⟩ ⟨12, 25, 12, 57⟩ ⟨12, 8, 12, 58⟩ ⟨12, 8, 12, 58⟩ ⟨13, 8, 13, 12⟩ ⟨13, 8, 13, 17⟩ ⟨13, 20, 13, 24⟩ ⟨13, 8, 13, 24⟩) from rfl, show defScope sEL = eS "size" from rfl] at lEL
  have TL : ErrTxt l.prog K mg "TooLong" "size" CL fL := { nm := nm_size, gC := gEL, cls := ⟨_, _, _, _, _, _, _, _, _, _, _, _, _, _, _, xEL, (by show PySem.HandSPX.refsVE [.type "ValueError", .type "Exception", .type "BaseException", .type "object"] = true; decide +kernel)⟩, sa := saEL, ga := gEL1, gg := gEL2, noN := nEL, iC := iEL, tC := tEL, kC := kEL, exC := eEL, veC := vEL, tyC := yEL, hdC := hEL, mrC := rEL, suC := uEL, op := zop, gS := gSU, top := ztp, fn := ⟨_, _, _, _, _, _, _, _, _, _, _, _, _, _, _, _, _, _, _, _, _, _, _, _, _, _, _, _, _, _, _, _, lEL, cEL, dEL, wEL, oEL, by decide, qEL⟩ }
  have BL : PySem.W.exmOne K (.ref CL) (.ref CJ) = some true := PySem.W.exm_ref eEJ hEJ yEJ jEL
  have XL : ExcC K CL := ⟨gEL1, gEL2, eEL, hEL, bEL1, bEL2, bEL3, bEL4⟩
  have gED := PySem.W.mg_of X G aED
  rw [show defArgs sED = (eA "depth" ⟨16, 17, 16, 21⟩ ⟨16, 23, 16, 28⟩) from rfl, show defBody sED = (eB "depth" "loops nested too deep" ⟨17, 8, 17, 13⟩ ⟨17, 8, 17, 15⟩ ⟨17, 8, 17, 24⟩ ⟨17, 25, 17, 48⟩ ⟨17, 8, 17, 49⟩ ⟨17, 8, 17, 49⟩ ⟨18, 8, 18, 12⟩ ⟨18, 8, 18, 18⟩ ⟨18, 21, 18, 26⟩ ⟨18, 8, 18, 26⟩) from rfl, show defScope sED = eS "depth" from rfl] at lED
  have TD : ErrTxt l.prog K mg "TooDeep" "depth" CD fD := { nm := nm_depth, gC := gED, cls := ⟨_, _, _, _, _, _, _, _, _, _, _, _, _, _, _, xED, (by show PySem.HandSPX.refsVE [.type "ValueError", .type "Exception", .type "BaseException", .type "object"] = true; decide +kernel)⟩, sa := saED, ga := gED1, gg := gED2, noN := nED, iC := iED, tC := tED, kC := kED, exC := eED, veC := vED, tyC := yED, hdC := hED, mrC := rED, suC := uED, op := zop, gS := gSU, top := ztp, fn := ⟨_, _, _, _, _, _, _, _, _, _, _, _, _, _, _, _, _, _, _, _, _, _, _, _, _, _, _, _, _, _, _, _, lED, cED, dED, wED, oED, by decide, qED⟩ }
  have BD : PySem.W.exmOne K (.ref CD) (.ref CJ) = some true := PySem.W.exm_ref eEJ hEJ yEJ jED
  have XD : ExcC K CD := ⟨gED1, gED2, eED, hED, bED1, bED2, bED3, bED4⟩
  have M : Bl mg := ⟨PySem.W.mg_none_of X G z0, PySem.W.mg_none_of X G z1, PySem.W.mg_none_of X G z2, PySem.W.mg_none_of X G z3, PySem.W.mg_none_of X G z4, PySem.W.mg_none_of X G z5, PySem.W.mg_none_of X G z6, PySem.W.mg_none_of X G z7, PySem.W.mg_none_of X G z8, PySem.W.mg_none_of X G z9, PySem.W.mg_none_of X G z10, PySem.W.mg_none_of X G z11, PySem.W.mg_none_of X G z12, PySem.W.mg_none_of X G z13, PySem.W.mg_none_of X G z14, PySem.W.mg_none_of X G z15⟩
  have m_sorted := PySem.W.mg_none_of X G y0
  have m_reversed := PySem.W.mg_none_of X G y1
  have g_MAX_SIZE := PySem.W.mg_of X G v0
  have g_MAX_DEPTH := PySem.W.mg_of X G v1
  have gR0 := PySem.W.mg_of X G a42
  obtain ⟨hC, hT0⟩ := tab.at X gR0 l42 rfl dR wR
  refine ⟨PySem.W.fnOf "law" "law" (defArgs sLaw) (defBody sLaw) (defScope sLaw) .none kV43 dc43 pm43 an43 cd43 ct43, cR, TR, hC, hT0, nR, fun s v => .of_eq rfl, fun base _ _ TB => ?_⟩
  have clT : Cls K CT := ⟨pgT, hdT, poT, saT⟩
  have clP : Cls K CP := ⟨pgP, hdP, poP, saP⟩
  have TT : TTxt K mg CT := ⟨clT, nT0, nT1, nT2, nT3, nT4, nT5, gCT⟩
  have PT : PTxt K mg CP := ⟨clP, nP0, nP1, nP2, nP3, nP4, nP5, nP6, gCP⟩
  have PM : PMs K CP := ⟨⟨_, _, FPPart_after, bPPart_after, ⟨aPPart_after, iPPart_after, kPPart_after⟩, clP⟩, ⟨_, _, FPPart_before, bPPart_before, ⟨aPPart_before, iPPart_before, kPPart_before⟩, clP⟩, ⟨_, _, FPPart_factors, bPPart_factors, ⟨aPPart_factors, iPPart_factors, kPPart_factors⟩, clP⟩, ⟨_, _, FPPart_binary, bPPart_binary, ⟨aPPart_binary, iPPart_binary, kPPart_binary⟩, clP⟩, ⟨_, _, FPPart_square, bPPart_square, ⟨aPPart_square, iPPart_square, kPPart_square⟩, clP⟩, ⟨_, _, FPPart_behind_body, bPPart_behind_body, ⟨aPPart_behind_body, iPPart_behind_body, kPPart_behind_body⟩, clP⟩⟩
  have TF : TFs K mg := ⟨AUnit, AUnits, AProduct, APieces, AGather, AGather_part, APexecuted, ADot⟩
  have KT : KAt K mg CT "Track" "Track.__init__" sTrack_init ["self", "p", "n", "program"] := ⟨_, _, FTTrack_init, bTTrack_init, ⟨mkT, aTTrack_init, iTTrack_init, kcT⟩, gCT⟩
  have KP : KAt K mg CP "Part" "Part.__init__" sPart_init ["self", "p", "n", "instruction"] := ⟨_, _, FPPart_init, bPPart_init, ⟨mkP, aPPart_init, iPPart_init, kcP⟩, gCP⟩
  have hTr := ok_inits (P := l.prog) (w := w) (base := base) M KT KP AWord_count ARead_count AWrite_count TT PT 5
  have hUn := has_units (P := l.prog) (w := w) (base := base) (k := 0) M TF
  have hEx := has_executed (P := l.prog) (w := w) (base := base) M APexecuted
  have hIn := ok_inv (P := l.prog) (w := w) (base := base) (k := 0) AInverse
  have hEc := ok_ech (k := 1) M AEchelon hIn (ok_times M ATimes) (ok_less M ALess)
  have hWt := ok_wts M m_sorted AWeights (hEc.weak ech_weak) ((ok_eqs (k := 0) M AEquations).up (by decide))
  have hOv := ok_overwritten (P := l.prog) (w := w) (base := base) (k := 0) M AOverwritten
  have hIv := ok_inverted (k := 1) M AInverted hIn
  have hRs := ok_restored (k := 4) M ARestored (hWt.up (by decide))
  have hSp := ok_spanning M ASpanning hEc
  have hUs := ok_ustep (k := 5) M AUndone_step (hOv.up (by decide)) (hIv.up (by decide)) (hEx.up (by decide)) (hRs.up (by decide)) (hSp.up (by decide))
  have hUp := ok_upart M AUndone_part PT hUs
  have hLf := ok_lastf (P := l.prog) (w := w) (base := base) (k := 0) M m_reversed ALast_first
  have hUd := ok_undone (k := 7) M AUndone TT PT (hUp.up (by decide)) (hLf.up (by decide))
  have hSi := ok_silent (P := l.prog) (w := w) (base := base) M ASilent 5
  have hSz := ok_size (P := l.prog) (w := w) (base := base) M ASize 5
  have hDp := ok_depth (P := l.prog) (w := w) (base := base) M ADepth 5
  have hBw := ok_backward (k := 20) M TL TD g_MAX_SIZE g_MAX_DEPTH ABackward (hSz.up (by decide)) (hDp.up (by decide)) (hUd.up (by decide)) hTr (hSi.up (by decide)) (hUn.up (by decide))
  have hT : Has l.prog w K mg base 1 "_law_take" ["_law_pot_here", "_law_many"] spTk7 := ok_take ATake
  have hO := ok_of (k := 1) M AOf hT
  have hPl := ok_plain (k := 2) M APlain (hO.up (by decide)) (hT.up (by decide))
  have hNs := ok_nested (k := 2) M ANested hO
  have R : ErrsR l.prog K mg CJ CB CL fL CD fD := ⟨TL, TD, gEJ, gEB, BL, BD, XL, XD, kLB, kDB, kLD, kDL⟩
  have hcd : ∀ f fd, mg "_law_right" = some (.ref f) → Fun K "_law_right" "_law_right" sRight f fd → fd.code = .ref cR := fun f fd g F' => by
    obtain ⟨oc, od, kV, doc, pm, an, cdv, ct, osl, rfl, lk, _⟩ := F'.ex
    cases g.symm.trans gR0
    cases lk.symm.trans l42
    rfl
  have hR := ok_right (k := 22) M ARight ABackward ARefused hcd TB R (hO.up (by decide)) (hT.up (by decide)) (hNs.up (by decide)) (hPl.up (by decide)) hBw
  have hLaw := ok_law (P := l.prog) (w := w) (base := base) (k := 25) M ALaw ((ok_pot (k := 0) M APot).up (by decide)) hR
  obtain ⟨f, fd, c⟩ := hLaw
  cases hfa.symm.trans c.g
  cases hfa.symm.trans (PySem.W.mg_of X G a43)
  obtain ⟨_, _, _, e⟩ := c.lk
  cases e.symm.trans l43
  exact c.ok
end K32
open PySem PySem.W PyProof.Rows
set_option maxRecDepth 100000 in
set_option maxHeartbeats 0 in
theorem PySem.Challenge.cw_leastjournal_k32_programs_too_long_or_to_holds : PySem.Challenge.rw_leastjournal_k32_programs_too_long_or_to.Holds := by
  w_on; o_law; k_head; (case hw => w_witness2)
  k_fill
  refine Lj.walk_GT (l := PySem.Challenge.rw_leastjournal_k32_programs_too_long_or_to) (n := 63) (k := 26) (x := "_law_script") (sp := K32.spLawT) "_law_right" rfl (by decide) rfl ⟨rfl, by decide, by decide⟩ ?hrec (fun w h Y => PySem.W.km_in_of Y) ?F (fun _ _ _ a ns hl hT hS => ⟨a, ns, rfl, hS, hl, hT, fun _ => rfl⟩)
  case hrec => first | rfl | decide +kernel
  case F =>
    intro w mg fa h KX G hmg tab
    refine' K32.all_mk KX G hmg tab ?a0 ?l0 ?c0 ?k0 ?a1 ?l1 ?c1 ?k1 ?a2 ?l2 ?c2 ?k2 ?a3 ?l3 ?c3 ?k3 ?a4 ?l4 ?c4 ?k4 ?a5 ?l5 ?c5 ?k5 ?a6 ?l6 ?c6 ?k6 ?a7 ?l7 ?c7 ?k7 ?a8 ?l8 ?c8 ?k8 ?a9 ?l9 ?c9 ?k9 ?a10 ?l10 ?c10 ?k10 ?a11 ?l11 ?c11 ?k11 ?a12 ?l12 ?c12 ?k12 ?a13 ?l13 ?c13 ?k13 ?a14 ?l14 ?c14 ?k14 ?a15 ?l15 ?c15 ?k15 ?a16 ?l16 ?c16 ?k16 ?a17 ?l17 ?c17 ?k17 ?a18 ?l18 ?c18 ?k18 ?a19 ?l19 ?c19 ?k19 ?a20 ?l20 ?c20 ?k20 ?a21 ?l21 ?c21 ?k21 ?a22 ?l22 ?c22 ?k22 ?a23 ?l23 ?c23 ?k23 ?a24 ?l24 ?c24 ?k24 ?a25 ?l25 ?c25 ?k25 ?a26 ?l26 ?c26 ?k26 ?a27 ?l27 ?c27 ?k27 ?a28 ?l28 ?c28 ?k28 ?a29 ?l29 ?c29 ?k29 ?a30 ?l30 ?c30 ?k30 ?a31 ?l31 ?c31 ?k31 ?a32 ?l32 ?c32 ?k32 ?a33 ?l33 ?c33 ?k33 ?a34 ?l34 ?c34 ?k34 ?a35 ?l35 ?c35 ?k35 ?a36 ?l36 ?c36 ?k36 ?a37 ?l37 ?c37 ?k37 ?a38 ?l38 ?c38 ?k38 ?a39 ?l39 ?c39 ?k39 ?a40 ?l40 ?c40 ?k40 ?a41 ?l41 ?c41 ?k41 ?a42 ?l42 ?c42 ?k42 ?a43 ?l43 ?c43 ?k43 ?z0 ?z1 ?z2 ?z3 ?z4 ?z5 ?z6 ?z7 ?z8 ?z9 ?z10 ?z11 ?z12 ?z13 ?z14 ?z15 ?y0 ?y1 ?v0 ?v1 ?aCT ?aTTrack_init ?iTTrack_init ?lTTrack_init ?cTTrack_init ?kTTrack_init ?pgT ?hdT ?poT ?saT ?mkT ?kcT ?nT0 ?nT1 ?nT2 ?nT3 ?nT4 ?nT5 ?aCP ?aPPart_init ?iPPart_init ?lPPart_init ?cPPart_init ?kPPart_init ?aPPart_after ?iPPart_after ?lPPart_after ?cPPart_after ?kPPart_after ?aPPart_before ?iPPart_before ?lPPart_before ?cPPart_before ?kPPart_before ?aPPart_factors ?iPPart_factors ?lPPart_factors ?cPPart_factors ?kPPart_factors ?aPPart_binary ?iPPart_binary ?lPPart_binary ?cPPart_binary ?kPPart_binary ?aPPart_square ?iPPart_square ?lPPart_square ?cPPart_square ?kPPart_square ?aPPart_behind_body ?iPPart_behind_body ?lPPart_behind_body ?cPPart_behind_body ?kPPart_behind_body ?pgP ?hdP ?poP ?saP ?mkP ?kcP ?nP0 ?nP1 ?nP2 ?nP3 ?nP4 ?nP5 ?nP6 ?aEJ ?eEJ ?hEJ ?yEJ ?zsu ?zve ?zop ?ztp ?aEB ?aEL ?xEL ?saEL ?gEL1 ?gEL2 ?nEL ?iEL ?tEL ?kEL ?eEL ?vEL ?yEL ?hEL ?rEL ?uEL ?lEL ?cEL ?dEL ?wEL ?oEL ?qEL ?jEL ?bEL1 ?bEL2 ?bEL3 ?bEL4 ?aED ?xED ?saED ?gED1 ?gED2 ?nED ?iED ?tED ?kED ?eED ?vED ?yED ?hED ?rED ?uED ?lED ?cED ?dED ?wED ?oED ?qED ?jED ?bED1 ?bED2 ?bED3 ?bED4 ?kLB ?kDB ?kLD ?kDL ?dR ?wR ?nR
    (case a0 => k_is); (case l0 => k_is); (case c0 => k_is); (case k0 => k_is); (case a1 => k_is); (case l1 => k_is); (case c1 => k_is); (case k1 => k_is); (case a2 => k_is); (case l2 => k_is); (case c2 => k_is); (case k2 => k_is); (case a3 => k_is); (case l3 => k_is); (case c3 => k_is); (case k3 => k_is); (case a4 => k_is); (case l4 => k_is); (case c4 => k_is); (case k4 => k_is); (case a5 => k_is); (case l5 => k_is); (case c5 => k_is); (case k5 => k_is); (case a6 => k_is); (case l6 => k_is); (case c6 => k_is); (case k6 => k_is); (case a7 => k_is); (case l7 => k_is); (case c7 => k_is); (case k7 => k_is); (case a8 => k_is); (case l8 => k_is); (case c8 => k_is); (case k8 => k_is); (case a9 => k_is); (case l9 => k_is); (case c9 => k_is); (case k9 => k_is); (case a10 => k_is); (case l10 => k_is); (case c10 => k_is); (case k10 => k_is); (case a11 => k_is); (case l11 => k_is); (case c11 => k_is); (case k11 => k_is); (case a12 => k_is); (case l12 => k_is); (case c12 => k_is); (case k12 => k_is); (case a13 => k_is); (case l13 => k_is); (case c13 => k_is); (case k13 => k_is); (case a14 => k_is); (case l14 => k_is); (case c14 => k_is); (case k14 => k_is); (case a15 => k_is); (case l15 => k_is); (case c15 => k_is); (case k15 => k_is); (case a16 => k_is); (case l16 => k_is); (case c16 => k_is); (case k16 => k_is); (case a17 => k_is); (case l17 => k_is); (case c17 => k_is); (case k17 => k_is); (case a18 => k_is); (case l18 => k_is); (case c18 => k_is); (case k18 => k_is); (case a19 => k_is); (case l19 => k_is); (case c19 => k_is); (case k19 => k_is); (case a20 => k_is); (case l20 => k_is); (case c20 => k_is); (case k20 => k_is); (case a21 => k_is); (case l21 => k_is); (case c21 => k_is); (case k21 => k_is); (case a22 => k_is); (case l22 => k_is); (case c22 => k_is); (case k22 => k_is); (case a23 => k_is); (case l23 => k_is); (case c23 => k_is); (case k23 => k_is); (case a24 => k_is); (case l24 => k_is); (case c24 => k_is); (case k24 => k_is); (case a25 => k_is); (case l25 => k_is); (case c25 => k_is); (case k25 => k_is); (case a26 => k_is); (case l26 => k_is); (case c26 => k_is); (case k26 => k_is); (case a27 => k_is); (case l27 => k_is); (case c27 => k_is); (case k27 => k_is); (case a28 => k_is); (case l28 => k_is); (case c28 => k_is); (case k28 => k_is); (case a29 => k_is); (case l29 => k_is); (case c29 => k_is); (case k29 => k_is); (case a30 => k_is); (case l30 => k_is); (case c30 => k_is); (case k30 => k_is); (case a31 => k_is); (case l31 => k_is); (case c31 => k_is); (case k31 => k_is); (case a32 => k_is); (case l32 => k_is); (case c32 => k_is); (case k32 => k_is); (case a33 => k_is); (case l33 => k_is); (case c33 => k_is); (case k33 => k_is); (case a34 => k_is); (case l34 => k_is); (case c34 => k_is); (case k34 => k_is); (case a35 => k_is); (case l35 => k_is); (case c35 => k_is); (case k35 => k_is); (case a36 => k_is); (case l36 => k_is); (case c36 => k_is); (case k36 => k_is); (case a37 => k_is); (case l37 => k_is); (case c37 => k_is); (case k37 => k_is); (case a38 => k_is); (case l38 => k_is); (case c38 => k_is); (case k38 => k_is); (case a39 => k_is); (case l39 => k_is); (case c39 => k_is); (case k39 => k_is); (case a40 => k_is); (case l40 => k_is); (case c40 => k_is); (case k40 => k_is); (case a41 => k_is); (case l41 => k_is); (case c41 => k_is); (case k41 => k_is); (case a42 => k_is); (case l42 => k_is); (case c42 => k_is); (case k42 => k_is); (case a43 => k_is); (case l43 => k_is); (case c43 => k_is); (case k43 => k_is); (case z0 => k_is); (case z1 => k_is); (case z2 => k_is); (case z3 => k_is); (case z4 => k_is); (case z5 => k_is); (case z6 => k_is); (case z7 => k_is); (case z8 => k_is); (case z9 => k_is); (case z10 => k_is); (case z11 => k_is); (case z12 => k_is); (case z13 => k_is); (case z14 => k_is); (case z15 => k_is); (case y0 => k_is); (case y1 => k_is); (case v0 => k_is); (case v1 => k_is)
    (case aCT => k_is); (case aTTrack_init => k_is); (case iTTrack_init => k_is); (case lTTrack_init => k_is); (case cTTrack_init => k_is); (case kTTrack_init => k_is); (case pgT => k_is); (case hdT => k_is); (case poT => k_is); (case saT => k_is); (case mkT => k_is); (case kcT => k_is); (case nT0 => k_is); (case nT1 => k_is); (case nT2 => k_is); (case nT3 => k_is); (case nT4 => k_is); (case nT5 => k_is); (case aCP => k_is); (case aPPart_init => k_is); (case iPPart_init => k_is); (case lPPart_init => k_is); (case cPPart_init => k_is); (case kPPart_init => k_is); (case aPPart_after => k_is); (case iPPart_after => k_is); (case lPPart_after => k_is); (case cPPart_after => k_is); (case kPPart_after => k_is); (case aPPart_before => k_is); (case iPPart_before => k_is); (case lPPart_before => k_is); (case cPPart_before => k_is); (case kPPart_before => k_is); (case aPPart_factors => k_is); (case iPPart_factors => k_is); (case lPPart_factors => k_is); (case cPPart_factors => k_is); (case kPPart_factors => k_is); (case aPPart_binary => k_is); (case iPPart_binary => k_is); (case lPPart_binary => k_is); (case cPPart_binary => k_is); (case kPPart_binary => k_is); (case aPPart_square => k_is); (case iPPart_square => k_is); (case lPPart_square => k_is); (case cPPart_square => k_is); (case kPPart_square => k_is); (case aPPart_behind_body => k_is); (case iPPart_behind_body => k_is); (case lPPart_behind_body => k_is); (case cPPart_behind_body => k_is); (case kPPart_behind_body => k_is); (case pgP => k_is); (case hdP => k_is); (case poP => k_is); (case saP => k_is); (case mkP => k_is); (case kcP => k_is); (case nP0 => k_is); (case nP1 => k_is); (case nP2 => k_is); (case nP3 => k_is); (case nP4 => k_is); (case nP5 => k_is); (case nP6 => k_is)
    (case aEJ => k_is); (case eEJ => k_is); (case hEJ => k_is); (case yEJ => k_is); (case zsu => k_is); (case zve => k_is); (case zop => k_is); (case ztp => decide +kernel); (case aEB => k_is); (case aEL => k_is); (case xEL => k_is); (case saEL => k_is); (case gEL1 => k_is); (case gEL2 => k_is); (case nEL => k_is); (case iEL => k_is); (case tEL => k_is); (case kEL => k_is); (case eEL => k_is); (case vEL => k_is); (case yEL => k_is); (case hEL => k_is); (case rEL => k_is); (case uEL => ks_is); (case lEL => k_is); (case cEL => k_is); (case dEL => k_is); (case wEL => rfl); (case oEL => first | rfl | decide +kernel); (case qEL => k_is); (case jEL => k_is); (case bEL1 => k_is); (case bEL2 => k_is); (case bEL3 => k_is); (case bEL4 => k_is); (case aED => k_is); (case xED => k_is); (case saED => k_is); (case gED1 => k_is); (case gED2 => k_is); (case nED => k_is); (case iED => k_is); (case tED => k_is); (case kED => k_is); (case eED => k_is); (case vED => k_is); (case yED => k_is); (case hED => k_is); (case rED => k_is); (case uED => ks_is); (case lED => k_is); (case cED => k_is); (case dED => k_is); (case wED => rfl); (case oED => first | rfl | decide +kernel); (case qED => k_is); (case jED => k_is); (case bED1 => k_is); (case bED2 => k_is); (case bED3 => k_is); (case bED4 => k_is); (case kLB => kit_is); (case kDB => kit_is); (case kLD => kit_is); (case kDL => kit_is); (case dR => k_is); (case wR => rfl); (case nR => kernel_rfl)
