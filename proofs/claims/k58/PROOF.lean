import PyProof.Rows.All
import Wide.All
import OpenK.AllK
import Wide.FinOn
import HandS.ForMost
import HandS.Wide
import HandS.IsInst
import HandS.Flow
import HandS.Evl
import PyProof.StrBlock2
import HandS.Zip
import HandS.Walk
import HandS.WideBits
import HandS.TupAny
import KE.GoesEnum
import HandS.Style
import HandS.Star
import HandS.SortKw
import HandS.More
import HandS.TupMul
import PyProof.EqAt
import PyProof.EqKinds
import PyProof.TupleCall
import KE.KExcSuper
import HandS.ForExc
import HandS.ExcInit
import HandS.ExcIs
import HandS.ExcField
import HandS.ExcValue
import KE.KExcIs
import HandS.Text
import HandS.Dict
import PyProof.ListStr
import HandS.Conv
import HandS.TupLe
import HandS.RaiseMore
import HandS.Steps
import KE.RegKSuper
import KE.RegKIsAll
import PySem.Challenge.RW_leastjournal_k58_texts_that_are_no_progr
set_option Elab.async false
set_option linter.all false
set_option maxRecDepth 100000
namespace Lj
open PySem PySem.Spec PyProof.Rows L2
section
variable {X : Cx}
theorem op_mulS : OpR X (binaryOp .Mult) (fun x y H Q => ∃ z n, x = .str z ∧ y = .int n ∧ MulOk z n ∧ Q (.str (Txt.mul z n)) H) := by
  intro pins s σ H x y v u Q I rx ry h
  obtain ⟨z, n, rfl, rfl, ok, q⟩ := h
  obtain ⟨t, rfl⟩ := rx
  obtain ⟨t', rfl⟩ := ry
  exact SB.mul ok fun t2 k => ⟨.str _, H, I.tok _, ⟨_, rfl⟩, q⟩
end
section
variable {X : Cx} {CX : CXT} {k : Nat} {f : Addr} {fd : FuncData} {ps ks : List Str} {sp : Sp} {E : XK} {x : Str} {p pos : Pos} {kws : List Keyword} {tk : TA}
  {g : List Value → List Value → List Value} {gV : List V → List V → List V}
end
/-! ### heaps -/
theorem same_new {H : Hp} {p : Addr} {o : HO} (h : H p = none) : Same H (upd H p o) := fun b x e => by
  rw [upd_ne (ne_of_none e h)]
  exact e
/-- all but p stands as before -/
def But (p : Addr) (H H' : Hp) : Prop := ∀ b o, b ≠ p → H b = some o → H' b = some o
theorem But.refl (p : Addr) (H : Hp) : But p H H := fun _ _ _ h => h
theorem But.trans {p : Addr} {H H1 H2 : Hp} (a : But p H H1) (b : But p H1 H2) : But p H H2 := fun c o n h => b c o n (a c o n h)
theorem But.same {p : Addr} {H H' : Hp} (s : Same H H') : But p H H' := fun b o _ h => s b o h
theorem But.new {p q : Addr} {H : Hp} {o : HO} (h : H q = none) : But p H (upd H q o) := But.same (same_new h)
theorem But.upd {p : Addr} {H : Hp} {o : HO} : But p H (upd H p o) := fun b x n e => by
  rw [upd_ne n]
  exact e
theorem But.rd {p a : Addr} {H H' : Hp} {u : HO} (b : But p H H') (n : a ≠ p) (h : Rd H a u) : Rd H' a u := by
  rcases h with h | ⟨o, h⟩
  · exact .inl (b _ _ n h)
  · exact .inr ⟨o, b _ _ n h⟩
theorem But.seq {K : PySem.W.Frag} {p a : Addr} {H H' : Hp} {xs : List V} (b : But p H H') (n : a ≠ p) (h : SqL K H a xs) : SqL K H' a xs := by
  rcases h with h | h
  · exact .inl (b.rd n h)
  · exact .inr h
theorem But.tup {K : PySem.W.Frag} {p a : Addr} {H H' : Hp} {xs : List V} (b : But p H H') (n : a ≠ p) (h : SqT K H a xs) : SqT K H' a xs := by
  rcases h with h | h
  · exact .inl (b.rd n h)
  · exact .inr h
/-! ### the urn: two numbers in a list -/
def wide : Nat := 2 ^ 1000
def Urn (H : Hp) (p : Addr) : Prop := ∃ u v : Int, H p = some (.lst [.int u, .int v]) ∧ 0 ≤ u ∧ u.natAbs < wide ∧ 0 ≤ v ∧ v < 2305843009213693951
theorem Urn.but {p q : Addr} {H H' : Hp} (b : But q H H') (n : p ≠ q) (h : Urn H p) : Urn H' p := by
  obtain ⟨u, v, e, r⟩ := h
  exact ⟨u, v, b _ _ n e, r⟩
theorem Urn.same {p : Addr} {H H' : Hp} (b : Same H H') (h : Urn H p) : Urn H' p := by
  obtain ⟨u, v, e, r⟩ := h
  exact ⟨u, v, b _ _ e, r⟩
theorem Urn.ne {p q : Addr} {H : Hp} (h : Urn H p) (e : H q = none) : q ≠ p := by
  obtain ⟨u, v, e', _⟩ := h
  exact (ne_of_none e' e).symm
theorem Urn.free {p q : Addr} {H H' : Hp} (h : Urn H' p) (b : But p H H') (e : H' q = none) : H q = none := by
  have n := h.ne e
  cases z : H q with
  | none => rfl
  | some o => rw [b _ _ n z] at e; cases e
theorem ind_bd (b : Bool) : -(2 ^ 64) < (if b then 1 else 0 : Int) ∧ (if b then 1 else 0 : Int) < 2 ^ 64 := by
  cases b
  · exact ⟨by decide, by decide⟩
  · exact ⟨by decide, by decide⟩
def nx (v : Int) : Int := (v * 1181783497276652981 + 12345678910987) % 2305843009213693951
theorem at_int {ns : List Int} {k : Int} (h0 : 0 ≤ k) (h : k < (ns.length : Int)) : ∃ v : Int, v ∈ ns ∧ atI (ns.map V.int) k = some (.int v) := by
  have hk : k.toNat < ns.length := by omega
  have ek : k = ((k.toNat : Nat) : Int) := by omega
  have q : atI (ns.map V.int) ((k.toNat : Nat) : Int) = some (.int ns[k.toNat]) := atI_nat (by rw [List.getElem?_map, List.getElem?_eq_getElem hk] <;> rfl)
  rw [← ek] at q
  exact ⟨ns[k.toNat], List.getElem_mem hk, q⟩
theorem at_any {xs : List V} {k : Int} (h0 : 0 ≤ k) (h : k < (xs.length : Int)) : ∃ v : V, v ∈ xs ∧ atI xs k = some v := by
  have hk : k.toNat < xs.length := by omega
  have ek : k = ((k.toNat : Nat) : Int) := by omega
  have q : atI xs ((k.toNat : Nat) : Int) = some xs[k.toNat] := atI_nat (List.getElem?_eq_getElem hk)
  rw [← ek] at q
  exact ⟨xs[k.toNat], List.getElem_mem hk, q⟩
theorem iteP {c A B : Prop} [Decidable c] (h : c) (a : A) : if decide c = true then A else B := by
  rw [decide_eq_true h]
  exact a
theorem iteN {c A B : Prop} [Decidable c] (h : ¬ c) (b : B) : if decide c = true then A else B := by
  rw [decide_eq_false h]
  exact b
/-! ### rules with the written part named: for the blocks of comprehensions -/
section
variable {X : Cx} {K : PySem.W.Frag}
theorem ix_tupK (h : X.K = K) : IxR X (rIxT K) := h ▸ ix_tup
end
end Lj
set_option Elab.async false
set_option linter.all false
set_option maxRecDepth 100000
namespace Lj
open PySem PySem.Spec PyProof.Rows L2
/-! ### promises of defs that are called where no repr is under way -/
/-- the def at f keeps sp wherever nothing is being shown -/
structure FnG (P : Program) (w : World) (K : PySem.W.Frag) (mg : Str → Option Value) (base : Heap) (k : Nat) (f : Addr) (fd : FuncData) (ps : List Str) (sp : Sp) : Prop where
  len : ∀ vs H Q E, sp vs H Q E → vs.length = ps.length
  run : ∀ (A : Around) (out : List Env) (s : Shared) (H : Hp) (as : Args) (us : List Value) (vs : List V) (Q : VK) (E : XK), A.guards = some [] → Room k A → Env0 P w K mg base A out s H →
    BindsTo s fd as (ps.zip us) → Vals vs us → sp vs H Q E → codeAny (model P w) A (.call (.ref f) as) (CR CX0 out P w H s Q E) s
section
variable {P : Program} {w : World} {K : PySem.W.Frag} {mg : Str → Option Value} {base : Heap} {j k : Nat} {f : Addr} {fd : FuncData} {ps : List Str} {sp sp' : Sp}
theorem FnG.of (F : FnOk P w K mg base CX0 k f fd ps sp) : FnG P w K mg base k f fd ps sp := ⟨F.len, fun A out s H as us vs Q E _ => F.run A out s H as us vs Q E⟩
theorem FnG.up (F : FnG P w K mg base j f fd ps sp) (h : j ≤ k) : FnG P w K mg base k f fd ps sp := ⟨F.len, fun A out s H as us vs Q E g r => F.run A out s H as us vs Q E g (r.mono h)⟩
theorem FnG.weak (F : FnG P w K mg base k f fd ps sp) (h : ∀ vs H Q E, sp' vs H Q E → sp vs H Q E) : FnG P w K mg base k f fd ps sp' :=
  ⟨fun vs H Q E q => F.len vs H Q E (h _ _ _ _ q), fun A out s H as us vs Q E g r e b v q => F.run A out s H as us vs Q E g r e b v (h _ _ _ _ q)⟩
/-- by the def's body, where nothing is being shown -/
theorem FnG.body {x qual : Str} {st : Stmt} {N : List Str} (F : Fun K x qual st f fd) (S : FnScope N ps (defScope st)) (len : ∀ vs H Q E, sp vs H Q E → vs.length = ps.length)
    (hb : ∀ (cdv : Value) (A : Around) (out : List Env) (s : Shared) (H : Hp) (vs : List V) (Q : VK) (E : XK), A.guards = some [] → Room k (A.deeper (envOfC qual (defScope st) s.heap.objs.size f cdv)) → sp vs H Q E →
      ∃ t, PSs (cxOf CX0 P w K mg base N qual (defScope st) f cdv A out s H E).nox (defBody st) t ∧ t { nx := fun _ H' => Q .non H', rt := Q } (start N vs) H) : FnG P w K mg base (k + 1) f fd ps sp := by
  obtain ⟨c0, c1, c2, c3, c4, c5, cd, c6, c7, rfl, look, code⟩ := F.ex
  refine ⟨len, fun A out s H as us vs Q E hg room env bind vals want => ?_⟩
  have ln := len _ _ _ _ want
  have old : ∀ b o, base.get? b = some o → s.heap.get? b = some o := fun b o e => (env.bs b o e).1
  have here : K.In s.heap := env.mod.kin.keeps old
  refine codeAny_call_function room.depth (here _ _ look) rfl S.co S.gen rfl (PySem.W.codeRec_of here code) (bind _ _ _ _ ?_)
  refine wpAny_newFunctionEnv_cells S.kind (fun ⟨n, v⟩ m => (S.par n (List.of_mem_zip m).1).elim .inl fun c => .inr ⟨c, PySem.W.cellsFrom_some _ _ _ (.inl c)⟩) fun en he s1 x => ?_
  subst he
  refine ⟨(env.mod.nolimit.keeps old).keeps x.toInCall.keep, codeAny_func ?_⟩
  obtain ⟨t, rule, holds⟩ := hb cd A out s H vs Q E hg (room.deeper _) want
  have start0 := inv_start (CX := CX0) (E := E) S room.hd env ln vals x
  refine wpAny_mono (rule.nox.run [] s1 (start N vs) H _ start0 holds) (fun r s' z => ?_) fun _ _ z => z
  match r, z with
  | .ret u, ⟨v, σ', H', J, rv, q⟩ => exact ⟨v, H', J.os, J.bare, J.base, J.hok, rv, q⟩
  | .next, ⟨σ', H', J, q⟩ => exact ⟨.non, H', J.os, J.bare, J.base, J.hok, rfl, q⟩
  | .brk, ⟨_, _, _, q⟩ => exact False.elim q
  | .cont, ⟨_, _, _, q⟩ => exact False.elim q
end
/-- where a def stands, under the name x, with its promise -/
structure Cal (P : Program) (w : World) (K : PySem.W.Frag) (mg : Str → Option Value) (base : Heap) (k : Nat) (x : Str) (ps : List Str) (f : Addr) (fd : FuncData) (sp : Sp) : Prop where
  ok : FnG P w K mg base k f fd ps sp
  kp : PySem.W.keepIn K (.ref f) = true
  b : Binds K fd ps []
  g : mg x = some (.ref f)
  lk : ∃ oc od osl, K.lookup f = some ⟨oc, od, .func fd, osl⟩
theorem fun_lk {K : PySem.W.Frag} {x qual : Str} {st : Stmt} {f : Addr} {fd : FuncData} (F : Fun K x qual st f fd) : ∃ oc od osl, K.lookup f = some ⟨oc, od, .func fd, osl⟩ := by
  obtain ⟨c0, c1, c2, c3, c4, c5, cd, c6, c7, e, look, code⟩ := F.ex
  exact ⟨_, _, _, look⟩
def Has (P : Program) (w : World) (K : PySem.W.Frag) (mg : Str → Option Value) (base : Heap) (k : Nat) (x : Str) (ps : List Str) (sp : Sp) : Prop := ∃ f fd, Cal P w K mg base k x ps f fd sp
/-- the def of the text st stands under the name x -/
def At (K : PySem.W.Frag) (mg : Str → Option Value) (x : Str) (st : Stmt) (ps : List Str) : Prop := ∃ f fd, Fun K x x st f fd ∧ Binds K fd ps [] ∧ mg x = some (.ref f)
section
variable {P : Program} {w : World} {K : PySem.W.Frag} {mg : Str → Option Value} {base : Heap} {j k : Nat} {x : Str} {ps : List Str} {sp sp' : Sp}
theorem Has.up (h : Has P w K mg base j x ps sp) (l : j ≤ k) : Has P w K mg base k x ps sp := by
  obtain ⟨f, fd, c⟩ := h
  exact ⟨f, fd, c.ok.up l, c.kp, c.b, c.g, c.lk⟩
theorem Has.weak (h : Has P w K mg base k x ps sp) (i : ∀ vs H Q E, sp' vs H Q E → sp vs H Q E) : Has P w K mg base k x ps sp' := by
  obtain ⟨f, fd, c⟩ := h
  exact ⟨f, fd, c.ok.weak i, c.kp, c.b, c.g, c.lk⟩
theorem Has.by {st : Stmt} {N : List Str} (F : At K mg x st ps) (S : FnScope N ps (defScope st)) (len : ∀ vs H Q E, sp vs H Q E → vs.length = ps.length)
    (hb : ∀ (f : Addr) (cdv : Value) (A : Around) (out : List Env) (s : Shared) (H : Hp) (vs : List V) (Q : VK) (E : XK), A.guards = some [] → Room k (A.deeper (envOfC x (defScope st) s.heap.objs.size f cdv)) → sp vs H Q E →
      ∃ t, PSs (cxOf CX0 P w K mg base N x (defScope st) f cdv A out s H E).nox (defBody st) t ∧ t { nx := fun _ H' => Q .non H', rt := Q } (start N vs) H) : Has P w K mg base (k + 1) x ps sp := by
  obtain ⟨f, fd, F, b, g⟩ := F
  exact ⟨f, fd, .body F S len (hb f), F.kp, b, g, fun_lk F⟩
end
/-- the def behind a name is the text's -/
theorem Cal.text {P : Program} {w : World} {K : PySem.W.Frag} {mg : Str → Option Value} {base : Heap} {k : Nat} {x : Str} {ps qs : List Str} {f : Addr} {fd : FuncData} {sp : Sp} {st : Stmt} (c : Cal P w K mg base k x ps f fd sp) (F : At K mg x st qs) : Fun K x x st f fd := by
  obtain ⟨f2, fd2, F2, _, g2⟩ := F
  have e := c.g.symm.trans g2
  cases e
  obtain ⟨_, _, _, l1⟩ := c.lk
  obtain ⟨_, _, _, l2⟩ := fun_lk F2
  have e := l1.symm.trans l2
  cases e
  exact F2
section
variable {X : Cx} {k : Nat} {x : Str} {ps ks : List Str} {f : Addr} {fd : FuncData} {sp : Sp} {p pos : Pos} {e : Expr} {es : List Expr} {kws : List Keyword} {t tk : TA}
  {g : List Value → List Value → List Value} {gV : List V → List V → List V}
def tCal (sp : Sp) (t : TA) : TE := fun σ H Q => t σ H fun vs H1 => sp vs H1 Q E0
theorem cal_run {pins : List (Addr × Obj)} {σ : L2.St} {H : Hp} {s : Shared} {Q : VK} {us ws zs : List Value} {vs : List V} {kw : List (Str × Value)} {s2 : Shared} (c : FnG X.prog X.w X.K X.mg X.base k f fd ps sp) (hg : X.A.guards = some []) (hr : Room k X.A)
    (I : Inv X pins σ H s) (bind : BindsTo s fd ⟨us, kw⟩ (ps.zip zs)) (vals : Vals vs zs) (h : sp vs H Q E0) : wpAny (model X.prog X.w) X.A (call (.ref f) us kw) (EP X pins σ Q) X.xe s := by
  refine wpAny_call (codeAny_mono (c.run X.A X.stack s H ⟨us, kw⟩ zs vs Q E0 hg hr I.env0 bind vals h) fun r s' z => ?_)
  match r, z with
  | .error _, z => exact z.elim
  | .ok (.ret _), z => exact I.after z
  | .ok .next, z => exact z.elim
  | .ok .brk, z => exact z.elim
  | .ok .cont, z => exact z.elim
/-- f(e, ..) -/
theorem pe_cal (c : Cal X.prog X.w X.K X.mg X.base k x ps f fd sp) (hg : X.A.guards = some []) (hr : Room k X.A) (gl : Gl X x) (ha : PA X (e :: es) t) (hdb : (x == ("__debug__" : Str)) = false := by decide)
    (he : starEach (e :: es) X.env = (false, eval e X.env) :: starEach es X.env := by rfl) (hpl : (backTo pos (starEach es X.env)).any (·.1) = false := by rfl) :
    PE X (.Call (.Name x p) (e :: es) [] pos) (tCal sp t) := by
  refine ⟨fun pins s σ H Q I h => wpAny_Call_Name_kw (ld_glob I gl c.g ?_ hdb)⟩
  refine PySem.W.callWith_K (h₀ := X.base) I.ok.mod.kin c.kp (thn (ha.run pos pins s σ H _ I h) fun us s1 ⟨vs, H1, I1, r, q⟩ => ⟨I1.kIn, ?_⟩) he hpl
  have ln : (us ++ []).length = ps.length := by
    rw [List.append_nil, ← r.length]
    exact c.ok.len _ _ _ _ q
  have bd := c.b s1 us I1.kIn ln
  rw [List.append_nil] at bd
  exact cal_run (ws := []) (s2 := s1) c.ok hg hr I1 bd r q
end
/-! ### repr of data -/
theorem repr_flat {P : Program} {w : World} {A : Around} {E : Value → Shared → Prop} {s : Shared} {u : Value} {d : PyData} {as : List Addr} {Q : Value → Shared → Prop} (r : Reads s.heap u d as) (sh : d.showable = true) (nd : d.hasDict = false) (hg : A.guards = some []) (hu : A.units + (d.depth + 1) < cLine) (sz : d.shown.length ≤ sizeLine)
    (hQ : ∀ h' t tk, (∀ b o, s.heap.get? b = some o → h'.get? b = some o) → Q (.str d.shown t) { s with heap := h', toks := tk }) : wpAny (model P w) A (call (.builtin "repr") [u]) Q E s := by
  have no : ∀ b o, s.heap.get? b = some o → s.heap.get? b = some o := fun _ _ e => e
  cases r with
  | none => exact _root_.PySem.P.repr_of_none (hQ s.heap s.toks (s.toks + 1) no)
  | bool b =>
    refine _root_.PySem.P.repr_of_bool ?_
    cases b
    · exact hQ s.heap s.toks (s.toks + 1) no
    · exact hQ s.heap s.toks (s.toks + 1) no
  | int i t => exact _root_.PySem.P.repr_of_int (of_decide_eq_true sh) (hQ s.heap s.toks (s.toks + 1) no)
  | str x t => exact _root_.PySem.P.repr_of_str (hQ s.heap s.toks (s.toks + 1) no) sz
  | list a b c d => exact PySem.repr_of_reads' (.list a b c d) sh (fun z => by rw [nd] at z; cases z) hg hu no (fun h' t tk z => hQ h' t tk z) sz
  | tuple a b c d => exact PySem.repr_of_reads' (.tuple a b c d) sh (fun z => by rw [nd] at z; cases z) hg hu no (fun h' t tk z => hQ h' t tk z) sz
  | dict a b c d e => cases nd
section
variable {X : Cx} {k : Nat}
/-- repr(x), x data without dicts -/
theorem call_reprD (hg : X.A.guards = some []) (hr : Room k X.A) : CallR X (.builtin "repr") (fun xs H Q => ∃ x d, xs = [x] ∧ Dp X.K H x d ∧ d.showable = true ∧ d.hasDict = false ∧ d.depth ≤ 64 ∧ d.shown.length ≤ sizeLine ∧ Q (.str d.shown) H) := by
  intro pins s σ H xs us Q I r h
  obtain ⟨x, d, rfl, dp, sh, nd, de, sz, q⟩ := h
  obtain ⟨u, rfl, ru⟩ := r.one
  obtain ⟨as, rd⟩ := Dp.reads I d x u dp ru
  have un := hr.un
  exact repr_flat rd sh nd hg (by omega) sz fun h' t tk keep => ⟨.str _, H, I.kept keep, ⟨_, rfl⟩, q⟩
end
/-! ### the end: the law's promise where the claim's caller calls it -/
theorem end_call {P : Program} {w : World} {K : PySem.W.Frag} {mg mb : Str → Option Value} {k : Nat} {fa a : Addr} {fd : FuncData} {x : Str} {sp : Sp} {s : Shared} {vs : List Value} {ns : List Int}
    (kin : K.In s.heap) (glob : s.heap.Ns mainGlobals mg) (blt : s.heap.Ns builtinsNs mb) (same : ∀ x : Str, x ≠ "__name__" → mb x = bootBuiltins x) (lim : s.heap.NoLimit) (gens : s.gens = #[])
    (obj : s.heap.get? a = some { cls := .type "list", data := .seq vs.toArray }) (numb : IntsAre vs ns) (short : ns.length ≤ sizeLine) (room : Room k callerA)
    (F : ∀ base : Heap, K.In base → base.Ns mainGlobals mg → FnG P w K mg base k fa fd [x] sp) (bind : ∀ (s : Shared) (u : Value), BindsTo s fd ⟨[u], []⟩ [(x, u)])
    (want : ∀ H : Hp, Only H → SqL K H a (ns.map V.int) → sp [.ref a] H (fun v _ => v = .bl true) fun _ _ _ => False) :
    codeAny (model P w) callerA (.call (.ref fa) ⟨[.ref a], []⟩) (fun r s' => r = .ok (.ret (.bool true)) ∧ OldK s.heap s'.heap ∧ s'.os = s.os ∧ AllBare s'.gens) s := by
  have vals := vals_ints numb
  -- one step: whatever part H of the script's object is tracked
  have go : ∀ H : Hp, Only H → SqL K H a (ns.map V.int) → HOk P w H s.heap → (∀ b, H b ≠ none → b = a ∧ K.lookup a = none) →
      codeAny (model P w) callerA (.call (.ref fa) ⟨[.ref a], []⟩) (fun r s' => r = .ok (.ret (.bool true)) ∧ OldK s.heap s'.heap ∧ s'.os = s.os ∧ AllBare s'.gens) s := by
    intro H only sq hok at1
    have untracked : ∀ {b : Addr} {o : Obj} {es : Array DictEntry} {n : Nat}, s.heap.get? b = some o → o.data = .dict es n → H b = none := fun {b o es n} e d => by
      by_cases z : H b = none
      · exact z
      · have e2 := (at1 b z).1
        subst e2
        rw [obj] at e
        cases e
        cases d
    have names : ∀ {b : Addr} {m : Str → Option Value}, s.heap.Ns b m → (hidT s.heap H).Ns b m := fun {b m} ⟨o, es, n, e, d, r⟩ => ⟨o, es, n, hidT_get e (untracked e d), d, r⟩
    have kin2 : K.In (hidT s.heap H) := fun b o e => by
      refine hidT_get (kin b o e) ?_
      by_cases z : H b = none
      · exact z
      · obtain ⟨z1, z2⟩ := at1 b z
        rw [z1, z2] at e
        cases e
    obtain ⟨mc, l1, l2⟩ := lim
    have env : Env0 P w K mg (hidT s.heap H) callerA [] s H :=
      ⟨rfl, ⟨kin2, names glob, ⟨mb, names blt, same⟩, ⟨mc, names l1, l2⟩⟩, fun b o e => of_hidT e, Nat.le_of_eq (hidT_size _ _), trivial, fun b m => absurd (show b ∈ ([] : List Addr) from m) List.not_mem_nil, hok, AllBare.of_eq gens⟩
    refine codeAny_mono ((F _ kin2 (names glob)).run callerA [] s H ⟨[.ref a], []⟩ [.ref a] [.ref a] _ _ rfl room env (bind s (.ref a)) (.cons rfl .nil) (want H only sq)) fun r s' z => ?_
    match r, z with
    | .error _, z => exact z.elim
    | .ok .next, z => exact z.elim
    | .ok .brk, z => exact z.elim
    | .ok .cont, z => exact z.elim
    | .ok (.ret u), ⟨v, H', os, bare, un, hok2, rv, q⟩ =>
      have q : v = .bl true := q
      subst q
      obtain rfl : u = Value.bool true := rv
      refine ⟨rfl, OldK.of_keep fun b o e => ?_, os, bare⟩
      by_cases z : H b = none
      · exact un.keep b o e z (fun m => absurd (show b ∈ ([] : List Addr) from m) List.not_mem_nil) List.not_mem_nil
      · rcases only b with y | ⟨ob, xs, y⟩
        · exact absurd y z
        · have e1 := (hok b _ y).1
          have e2 := (hok2 b _ (un.frzs b ob _ y)).1
          rw [e] at e1
          cases e1
          exact e2
  by_cases hk : K.lookup a = none
  · refine go (fun b => if b = a then some (.frz { cls := .type "list", data := .seq vs.toArray } (.lst (ns.map V.int))) else none) (fun b => ?_) (.inl (.inr ⟨_, if_pos rfl⟩)) (fun b u e => ?_) (fun b e => ?_)
    · by_cases y : b = a
      · exact .inr ⟨_, _, if_pos y⟩
      · exact .inl (if_neg y)
    · by_cases y : b = a
      · cases (if_pos y).symm.trans e
        subst y
        exact ⟨obj, by rw [List.length_map]; exact short, vs, _, vals, obj⟩
      · cases (if_neg y).symm.trans e
    · by_cases y : b = a
      · exact ⟨y, hk⟩
      · exact absurd (if_neg y) e
  · obtain ⟨o, ho⟩ := Option.ne_none_iff_exists'.mp hk
    have e := kin a o ho
    rw [obj] at e
    cases e
    refine go (fun _ => none) (fun _ => .inl rfl) (.inr ⟨_, vs.toArray, _, ho, rfl, rfl, rfl, ?_, vals⟩) (fun b u e => by cases e) (fun b e => absurd rfl e)
    rw [List.size_toArray, numb.length]
    exact short
theorem walk_G {l : PySem.W.OpenLaw} {n k : Nat} {q : Program} {loose : List Str} {XP : (Str → Option Value) → Heap → Prop} {YP : World → Heap → Prop} {d : DefRec} {K : Params → PySem.W.Frag} {sp : PySem.W.Frag → Sp} {x : Str}
    (hn : l.most = some n) (hn2 : n ≤ sizeLine) (hdf : d.params.defaults = []) (hr : Room k callerA) (hY : ∀ (w : World) (h : Heap), YP w h → (K w.params).In h)
    (F : ∀ (w : World) (mg : Str → Option Value) (fa : Addr) (h : Heap), (K w.params).In h → h.Ns mainGlobals mg → mg d.name = some (.ref fa) →
      ∃ fd : FuncData, (∀ (s : Shared) (u : Value), BindsTo s fd ⟨[u], []⟩ [(x, u)]) ∧ ∀ base : Heap, (K w.params).In base → base.Ns mainGlobals mg → FnG l.prog w (K w.params) mg base k fa fd [x] (sp (K w.params)))
    (want : ∀ (K : PySem.W.Frag) (H : Hp) (a : Addr) (ns : List Int), ns.length ≤ n → Only H → SqL K H a (ns.map V.int) → sp K [.ref a] H (fun v _ => v = .bl true) fun _ _ _ => False) :
    PySem.W.WalkO q loose XP YP l.row.toRowW d [] (fun f vs => PySem.call f vs) := by
  refine Att.attach_call hn hdf fun w s0 s mg mb fa o pm cd doc a vs ns G Y _ _ _ hmg obj numb short gens => ?_
  have kin := hY w _ Y
  obtain ⟨fd, bind, ok⟩ := F w mg fa _ kin G.T.g hmg
  exact end_call kin G.T.g G.T.b G.T.builtins G.T.nolimit gens obj numb (Nat.le_trans short hn2) hr ok bind fun H o sq => want _ H a ns short o sq
end Lj
set_option Elab.async false
set_option linter.all false
set_option maxRecDepth 100000
namespace Lj
open PySem PySem.Spec PyProof.Rows L2
/-! ### objects whose methods are called where nothing is being shown -/
/-- a method of C, with its promise -/
structure MCal (P : Program) (w : World) (K : PySem.W.Frag) (mg : Str → Option Value) (base : Heap) (k : Nat) (C : Addr) (m : Str) (ps : List Str) (f : Addr) (fd : FuncData) (sp : Sp) : Prop where
  ok : FnG P w K mg base k f fd ps sp
  b : Binds K fd ps []
  me : Meth K C m f
  cl : Cls K C
def MHas (P : Program) (w : World) (K : PySem.W.Frag) (mg : Str → Option Value) (base : Heap) (k : Nat) (C : Addr) (m : Str) (ps : List Str) (sp : Sp) : Prop := ∃ f fd, MCal P w K mg base k C m ps f fd sp
/-- the method's text stands in the class -/
def MAt (K : PySem.W.Frag) (C : Addr) (m qual : Str) (st : Stmt) (ps : List Str) : Prop := ∃ f fd, Fun K m qual st f fd ∧ Binds K fd ps [] ∧ Meth K C m f ∧ Cls K C
/-- a class that is made, with its __init__'s promise -/
structure KCal (P : Program) (w : World) (K : PySem.W.Frag) (mg : Str → Option Value) (base : Heap) (k : Nat) (C : Addr) (x : Str) (ps : List Str) (f : Addr) (fd : FuncData) (sp : Sp) : Prop where
  ok : FnG P w K mg base k f fd ps sp
  b : Binds K fd ps []
  mkc : Mk K C f
  g : mg x = some (.ref C)
def KHas (P : Program) (w : World) (K : PySem.W.Frag) (mg : Str → Option Value) (base : Heap) (k : Nat) (C : Addr) (x : Str) (ps : List Str) (sp : Sp) : Prop := ∃ f fd, KCal P w K mg base k C x ps f fd sp
def KAt (K : PySem.W.Frag) (mg : Str → Option Value) (C : Addr) (x qual : Str) (st : Stmt) (ps : List Str) : Prop := ∃ f fd, Fun K "__init__" qual st f fd ∧ Binds K fd ps [] ∧ Mk K C f ∧ mg x = some (.ref C)
section
variable {P : Program} {w : World} {K : PySem.W.Frag} {mg : Str → Option Value} {base : Heap} {j k : Nat} {C : Addr} {x m qual : Str} {ps : List Str} {sp sp' : Sp}
theorem MHas.up (h : MHas P w K mg base j C m ps sp) (l : j ≤ k) : MHas P w K mg base k C m ps sp := by
  obtain ⟨f, fd, c⟩ := h
  exact ⟨f, fd, c.ok.up l, c.b, c.me, c.cl⟩
theorem KHas.up (h : KHas P w K mg base j C x ps sp) (l : j ≤ k) : KHas P w K mg base k C x ps sp := by
  obtain ⟨f, fd, c⟩ := h
  exact ⟨f, fd, c.ok.up l, c.b, c.mkc, c.g⟩
theorem MHas.by {st : Stmt} {N : List Str} (F : MAt K C m qual st ps) (S : FnScope N ps (defScope st)) (len : ∀ vs H Q E, sp vs H Q E → vs.length = ps.length)
    (hb : ∀ (f : Addr) (cdv : Value) (A : Around) (out : List Env) (s : Shared) (H : Hp) (vs : List V) (Q : VK) (E : XK), A.guards = some [] → Room k (A.deeper (envOfC qual (defScope st) s.heap.objs.size f cdv)) → sp vs H Q E →
      ∃ t, PSs (cxOf CX0 P w K mg base N qual (defScope st) f cdv A out s H E).nox (defBody st) t ∧ t { nx := fun _ H' => Q .non H', rt := Q } (start N vs) H) : MHas P w K mg base (k + 1) C m ps sp := by
  obtain ⟨f, fd, F, b, g, c⟩ := F
  exact ⟨f, fd, .body F S len (hb f), b, g, c⟩
theorem KHas.by {st : Stmt} {N : List Str} (F : KAt K mg C x qual st ps) (S : FnScope N ps (defScope st)) (len : ∀ vs H Q E, sp vs H Q E → vs.length = ps.length)
    (hb : ∀ (f : Addr) (cdv : Value) (A : Around) (out : List Env) (s : Shared) (H : Hp) (vs : List V) (Q : VK) (E : XK), A.guards = some [] → Room k (A.deeper (envOfC qual (defScope st) s.heap.objs.size f cdv)) → sp vs H Q E →
      ∃ t, PSs (cxOf CX0 P w K mg base N qual (defScope st) f cdv A out s H E).nox (defBody st) t ∧ t { nx := fun _ H' => Q .non H', rt := Q } (start N vs) H) : KHas P w K mg base (k + 1) C x ps sp := by
  obtain ⟨f, fd, F, b, g, c⟩ := F
  exact ⟨f, fd, .body F S len (hb f), b, g, c⟩
/-- no promise is asked for -/
theorem FnG.none {f : Addr} {fd : FuncData} (no : ∀ vs H Q E, ¬ sp vs H Q E) : FnG P w K mg base k f fd ps sp := ⟨fun vs H Q E h => (no _ _ _ _ h).elim, fun _ _ _ _ _ _ _ _ _ _ _ _ _ _ h => (no _ _ _ _ h).elim⟩
theorem MHas.none {st : Stmt} (F : MAt K C m qual st ps) (no : ∀ vs H Q E, ¬ sp vs H Q E) : MHas P w K mg base k C m ps sp := by
  obtain ⟨f, fd, F, b, g, c⟩ := F
  exact ⟨f, fd, .none no, b, g, c⟩
theorem KHas.none {st : Stmt} (F : KAt K mg C x qual st ps) (no : ∀ vs H Q E, ¬ sp vs H Q E) : KHas P w K mg base k C x ps sp := by
  obtain ⟨f, fd, F, b, g, c⟩ := F
  exact ⟨f, fd, .none no, b, g, c⟩
end
section
variable {X : Cx} {k : Nat} {x m : Str} {ps : List Str} {f C : Addr} {fd : FuncData} {sp : Sp} {p pos apos : Pos} {e o : Expr} {es : List Expr} {t : TA} {ta : TE}
def tMC (C : Addr) (m : Str) (sp : Sp) (ta : TE) (t : TA) : TE := fun σ H Q => ta σ H fun x H1 => ∃ a dx fs, x = .ref a ∧ H1 a = some (.ins C dx fs) ∧ fs.lookup m = none ∧ t σ H1 fun vs H2 => sp (x :: vs) H2 Q E0
def tKC (C : Addr) (sp : Sp) (t : TA) : TE := fun σ H Q => t σ H fun vs H1 => ∀ x dx, H1 x = none → H1 dx = none → dx ≠ x → sp (.ref x :: vs) (upd (upd H1 dx (.own x)) x (.ins C dx [])) (fun v H2 => v = .non ∧ Q (.ref x) H2) E0
/-- o.m(e, ..) -/
theorem pe_mcal {pl : Sem Bool} (c : MCal X.prog X.w X.K X.mg X.base k C m ps f fd sp) (hg : X.A.guards = some []) (hr : Room k X.A) (he : PE X o ta) (ha : PA X (e :: es) t)
    (hst : starEach (e :: es) X.env = (false, eval e X.env) :: starEach es X.env := by rfl) (hpl : (backTo pos (starEach es X.env)).any (·.1) = false := by rfl)
    (ht : eval (.Call (.Attribute o m apos) (e :: es) [] pos) X.env = (do
      let ov ← eval o X.env
      standAt apos.atName
      let (f, first) ← holding [ov] (getMethod ov m pl)
      callWith pos f first (backTo pos (starEach (e :: es) X.env)) (backToKw pos (keywordEach [] X.env))) := by rfl) :
    PE X (.Call (.Attribute o m apos) (e :: es) [] pos) (tMC C m sp ta t) := by
  refine ⟨fun pins s σ H Q I h => ?_⟩
  refine PySem.W.methodCall_KW (pl := pl) (thn (he.run pins s σ H _ I h) fun u s1 ⟨x, H1, I1, rx, a, dx, fs, ex, ea, l, q⟩ => ?_) ht
  subst ex
  obtain rfl : u = Value.ref a := rx
  refine getmeth_ok I1 ea c.cl c.me l ?_
  refine PySem.W.callWith_K (first := [.ref a]) (h₀ := X.base) I.ok.mod.kin c.me.kp (thn (ha.run pos pins s1 σ H1 _ I1 q) fun us s2 ⟨vs, H2, I2, r, q2⟩ => ⟨I2.kIn, ?_⟩) hst hpl
  have r2 : Vals (V.ref a :: vs) (Value.ref a :: us) := .cons rfl r
  have ln : ((Value.ref a :: us) ++ []).length = ps.length := by
    rw [List.append_nil, ← r2.length]
    exact c.ok.len _ _ _ _ q2
  have bd := c.b s2 (Value.ref a :: us) I2.kIn ln
  rw [List.append_nil] at bd
  exact cal_run (ws := []) (s2 := s2) c.ok hg hr I2 bd r2 q2
/-- C(e, ..) -/
theorem pe_kcal (c : KCal X.prog X.w X.K X.mg X.base k C x ps f fd sp) (hg : X.A.guards = some []) (hr : Room (k + 1) X.A) (gl : Gl X x) (ha : PA X (e :: es) t) (hdb : (x == ("__debug__" : Str)) = false := by decide)
    (he : starEach (e :: es) X.env = (false, eval e X.env) :: starEach es X.env := by rfl) (hpl : (backTo pos (starEach es X.env)).any (·.1) = false := by rfl) :
    PE X (.Call (.Name x p) (e :: es) [] pos) (tKC C sp t) := by
  refine ⟨fun pins s σ H Q I h => ?_⟩
  refine wpAny_Call_Name_kw (ld_glob I gl c.g ?_ hdb)
  refine PySem.W.callWith_K (h₀ := X.base) I.ok.mod.kin c.mkc.kp (thn (ha.run pos pins s σ H _ I h) fun us s1 ⟨vs, H1, I1, r, q⟩ => ⟨I1.kIn, ?_⟩) he hpl
  have hq := q (s1.heap.objs.size + 1) s1.heap.objs.size (I1.hok.fresh (Nat.le_succ _)) (I1.hok.fresh (Nat.le_refl _)) (Nat.ne_of_lt (Nat.lt_succ_self _))
  have I2 := Inv.made (C := C) I1
  have r2 : Vals (V.ref (s1.heap.objs.size + 1) :: vs) (Value.ref (s1.heap.objs.size + 1) :: us) := .cons rfl r
  have ln : ((Value.ref (s1.heap.objs.size + 1) :: us) ++ []).length = ps.length := by
    rw [List.append_nil, ← r2.length]
    exact c.ok.len _ _ _ _ hq
  have bd := c.b _ (Value.ref (s1.heap.objs.size + 1) :: us) I2.kIn ln
  rw [List.append_nil] at bd
  refine wpAny_call (make_map (f := f) I1.kIn c.mkc.makes c.mkc.init (beq_iff_eq.mp c.mkc.fn) (codeAny_mono (c.ok.run _ X.stack _ _ ⟨Value.ref (s1.heap.objs.size + 1) :: us, []⟩ (Value.ref (s1.heap.objs.size + 1) :: us) _ _ E0 (by exact hg) (hr.make C us [])
    (I2.env0.make C us []) bd r2 hq) fun r s' hq' => ?_))
  match r, hq' with
  | .error _, z => exact z.elim
  | .ok (.ret u), z =>
    obtain ⟨v, H', I3, rv, ev, q3⟩ := I2.after z
    subst ev
    exact ⟨rv, ⟨V.ref (s1.heap.objs.size + 1), H', I3, rfl, q3⟩⟩
  | .ok .next, z => exact z.elim
  | .ok .brk, z => exact z.elim
  | .ok .cont, z => exact z.elim
end
end Lj
set_option Elab.async false
set_option linter.all false
set_option maxRecDepth 100000
namespace Lj
open PySem PySem.Spec PyProof.Rows L2
/-- the built-ins are not hidden by names of the module -/
structure Bl (mg : Str → Option Value) : Prop where
  len_ : mg "len" = none
  abs_ : mg "abs" = none
  int_ : mg "int" = none
  range_ : mg "range" = none
  max_ : mg "max" = none
  min_ : mg "min" = none
  all_ : mg "all" = none
  sum_ : mg "sum" = none
  list_ : mg "list" = none
  tuple_ : mg "tuple" = none
  isinstance_ : mg "isinstance" = none
  bool_ : mg "bool" = none
  repr_ : mg "repr" = none
  enumerate_ : mg "enumerate" = none
  zip_ : mg "zip" = none
  divmod_ : mg "divmod" = none
theorem Has.none {P : Program} {w : World} {K : PySem.W.Frag} {mg : Str → Option Value} {base : Heap} {k : Nat} {x : Str} {ps : List Str} {sp : Sp} {st : Stmt} (F : At K mg x st ps) (no : ∀ vs H Q E, ¬ sp vs H Q E) : Has P w K mg base k x ps sp := by
  obtain ⟨f, fd, F, b, g⟩ := F
  exact ⟨f, fd, ⟨fun vs H Q E h => absurd h (no vs H Q E), fun A out s H as us vs Q E _ _ _ _ _ h => absurd h (no vs H Q E)⟩, F.kp, b, g, fun_lk F⟩
/-! ### trees: instructions -/
inductive Tr where
  | op (w : Str) (as : List Int)
  | loop (k : Int) (b : List Tr)
mutual
def Tr.len : Tr → Int
  | .op _ _ => 1
  | .loop k b => k * lens b
def lens : List Tr → Int
  | [] => 0
  | t :: r => t.len + lens r
end
mutual
def Tr.inn : Tr → Int
  | .op _ _ => 0
  | .loop _ b => (b.length : Int) + inns b
def inns : List Tr → Int
  | [] => 0
  | t :: r => t.inn + inns r
end
def szs (b : List Tr) : Int := (b.length : Int) + inns b
mutual
def Tr.dep : Tr → Int
  | .op _ _ => 0
  | .loop _ b => 1 + deps b
def deps : List Tr → Int
  | [] => 0
  | t :: r => if t.dep > deps r then t.dep else deps r
end
mutual
def Tr.cnt (w : Str) : Tr → Int
  | .op u _ => if u = w then 1 else 0
  | .loop k b => k * cnts w b
def cnts (w : Str) : List Tr → Int
  | [] => 0
  | t :: r => t.cnt w + cnts w r
end
mutual
/-- what is executed, one after another -/
def Tr.ex : Tr → List Tr
  | .op w as => [.op w as]
  | .loop k b => (List.replicate k.toNat (exs b)).flatten
def exs : List Tr → List Tr
  | [] => []
  | t :: r => t.ex ++ exs r
end
mutual
/-- loops at most n deep, the words of the others not loop -/
def Tr.wf : Tr → Nat → Prop
  | .op w _, _ => w ≠ "loop"
  | .loop _ _, 0 => False
  | .loop k b, n + 1 => 0 ≤ k ∧ k ≤ 10 ^ 18 ∧ b.length ≤ 1000 ∧ wfs b n
def wfs : List Tr → Nat → Prop
  | [], _ => True
  | t :: r, n => t.wf n ∧ wfs r n
end
/-- a body for functions that may go n - 1 loops down -/
def okB : Nat → List Tr → Prop
  | 0, _ => False
  | n + 1, b => wfs b n ∧ b.length ≤ 1000
theorem lens_map : ∀ b : List Tr, lens b = (b.map Tr.len).sum
  | [] => rfl
  | t :: r => by rw [lens, lens_map r, List.map_cons, List.sum_cons]
theorem inns_map : ∀ b : List Tr, inns b = (b.map Tr.inn).sum
  | [] => rfl
  | t :: r => by rw [inns, inns_map r, List.map_cons, List.sum_cons]
theorem cnts_map (w : Str) : ∀ b : List Tr, cnts w b = (b.map (Tr.cnt w)).sum
  | [] => rfl
  | t :: r => by rw [cnts, cnts_map w r, List.map_cons, List.sum_cons]
theorem exs_map : ∀ b : List Tr, exs b = (b.map Tr.ex).flatten
  | [] => rfl
  | t :: r => by rw [exs, exs_map r, List.map_cons, List.flatten_cons]
theorem wfs_get : ∀ {b : List Tr} {n i : Nat} {t : Tr}, wfs b n → b[i]? = some t → t.wf n
  | [], _, _, _, _, e => by simp at e
  | t :: r, n, 0, u, h, e => by
    cases e
    rw [wfs] at h
    exact h.1
  | t :: r, n, i + 1, u, h, e => by
    rw [wfs] at h
    exact wfs_get (i := i) h.2 e
theorem wfs_all : ∀ {b : List Tr} {n : Nat}, (∀ t ∈ b, t.wf n) → wfs b n
  | [], _, _ => by rw [wfs]; trivial
  | t :: r, n, h => by
    rw [wfs]
    exact ⟨h t List.mem_cons_self, wfs_all fun u m => h u (List.mem_cons_of_mem _ m)⟩
theorem okB_loop {b b' : List Tr} {n i : Nat} {k : Int} (h : okB (n + 1) b) (e : b[i]? = some (.loop k b')) : 0 ≤ k ∧ k ≤ 10 ^ 18 ∧ okB n b' := by
  have z := wfs_get h.1 e
  cases n with
  | zero => rw [Tr.wf] at z; exact z.elim
  | succ m =>
    rw [Tr.wf] at z
    exact ⟨z.1, z.2.1, z.2.2.2, z.2.2.1⟩
theorem okB_op {b : List Tr} {n i : Nat} {w : Str} {as : List Int} (h : okB (n + 1) b) (e : b[i]? = some (.op w as)) : w ≠ "loop" := by
  have z := wfs_get h.1 e
  rw [Tr.wf] at z
  exact z
theorem at0 {x : V} {xs : List V} : atI (x :: xs) 0 = some x := atI_nat (j := 0) rfl
theorem sum_next {f : Tr → Int} {b : List Tr} {i : Nat} {t : Tr} (e : b[i]? = some t) : ((b.take (i + 1)).map f).sum = ((b.take i).map f).sum + f t := by
  rw [List.take_add_one, e, List.map_append, List.sum_append]
  show _ + (f t + 0) = _
  rw [Int.add_zero]
theorem map_next {α : Type} {f : Tr → α} {b : List Tr} {i : Nat} {t : Tr} (e : b[i]? = some t) : (b.take (i + 1)).map f = (b.take i).map f ++ [f t] := by
  rw [List.take_add_one, e, List.map_append]
  rfl
/-! ### trees in the heap -/
def Kt (H H' : Hp) : Prop := ∀ a xs, Rd H a (.tup xs) → Rd H' a (.tup xs)
theorem Kt.refl (H : Hp) : Kt H H := fun _ _ h => h
theorem Kt.trans {H H1 H2 : Hp} (a : Kt H H1) (b : Kt H1 H2) : Kt H H2 := fun c o h => b c o (a c o h)
theorem Kt.same {H H' : Hp} (s : Same H H') : Kt H H' := fun a xs h => by
  rcases h with h | ⟨o, h⟩
  · exact .inl (s _ _ h)
  · exact .inr ⟨o, s _ _ h⟩
theorem Kt.but {p : Addr} {H H' : Hp} {xs : List V} (b : But p H H') (e : H p = some (.lst xs)) : Kt H H' := fun a ys h => by
  refine b.rd (fun z => ?_) h
  subst z
  rcases h with h | ⟨o, h⟩
  · rw [e] at h; cases h
  · rw [e] at h; cases h
theorem Urn.kt {p : Addr} {H H' : Hp} (u : Urn H p) (b : But p H H') : Kt H H' := by
  obtain ⟨_, _, e, _⟩ := u
  exact Kt.but b e
theorem Kt.sq {K : PySem.W.Frag} {H H' : Hp} {a : Addr} {xs : List V} (k : Kt H H') (h : SqT K H a xs) : SqT K H' a xs := by
  rcases h with h | h
  · exact .inl (k _ _ h)
  · exact .inr h
mutual
def TrAt (K : PySem.W.Frag) (H : Hp) : Tr → V → Prop
  | .op w as, v => ∃ a, v = .ref a ∧ SqT K H a (.str w :: as.map V.int)
  | .loop k b, v => ∃ a c vs, v = .ref a ∧ SqT K H a [.str "loop", .int k, .ref c] ∧ SqT K H c vs ∧ TrsAt K H b vs
def TrsAt (K : PySem.W.Frag) (H : Hp) : List Tr → List V → Prop
  | [], vs => vs = []
  | t :: r, vs => ∃ v us, vs = v :: us ∧ TrAt K H t v ∧ TrsAt K H r us
end
def BodyAt (K : PySem.W.Frag) (H : Hp) (b : List Tr) (v : V) : Prop := ∃ c vs, v = .ref c ∧ SqT K H c vs ∧ TrsAt K H b vs
mutual
theorem TrAt.kt {K : PySem.W.Frag} {H H' : Hp} (k : Kt H H') : ∀ (t : Tr) (v : V), TrAt K H t v → TrAt K H' t v
  | .op w as, v, h => by
    rw [TrAt] at h ⊢
    obtain ⟨a, e, s⟩ := h
    exact ⟨a, e, k.sq s⟩
  | .loop n b, v, h => by
    rw [TrAt] at h ⊢
    obtain ⟨a, c, vs, e, s, s2, r⟩ := h
    exact ⟨a, c, vs, e, k.sq s, k.sq s2, TrsAt.kt k b vs r⟩
theorem TrsAt.kt {K : PySem.W.Frag} {H H' : Hp} (k : Kt H H') : ∀ (b : List Tr) (vs : List V), TrsAt K H b vs → TrsAt K H' b vs
  | [], vs, h => by
    rw [TrsAt] at h ⊢
    exact h
  | t :: r, vs, h => by
    rw [TrsAt] at h ⊢
    obtain ⟨v, us, e, a, b⟩ := h
    exact ⟨v, us, e, TrAt.kt k t v a, TrsAt.kt k r us b⟩
end
theorem BodyAt.kt {K : PySem.W.Frag} {H H' : Hp} {b : List Tr} {v : V} (k : Kt H H') (h : BodyAt K H b v) : BodyAt K H' b v := by
  obtain ⟨c, vs, e, s, r⟩ := h
  exact ⟨c, vs, e, k.sq s, TrsAt.kt k b vs r⟩
theorem TrsAt.length {K : PySem.W.Frag} {H : Hp} : ∀ {b : List Tr} {vs : List V}, TrsAt K H b vs → vs.length = b.length
  | [], vs, h => by
    rw [TrsAt] at h
    rw [h]
    rfl
  | t :: r, vs, h => by
    rw [TrsAt] at h
    obtain ⟨v, us, rfl, _, k⟩ := h
    rw [List.length_cons, List.length_cons, TrsAt.length k]
theorem TrsAt.get {K : PySem.W.Frag} {H : Hp} : ∀ {b : List Tr} {vs : List V} {i : Nat} {v : V}, TrsAt K H b vs → vs[i]? = some v → ∃ t, b[i]? = some t ∧ TrAt K H t v
  | [], vs, i, v, h, e => by
    rw [TrsAt] at h
    rw [h] at e
    simp at e
  | t :: r, vs, 0, v, h, e => by
    rw [TrsAt] at h
    obtain ⟨v', us, rfl, a, _⟩ := h
    cases e
    exact ⟨t, rfl, a⟩
  | t :: r, vs, i + 1, v, h, e => by
    rw [TrsAt] at h
    obtain ⟨v', us, rfl, _, k⟩ := h
    exact TrsAt.get (i := i) k e
theorem TrsAt.append {K : PySem.W.Frag} {H : Hp} : ∀ {b c : List Tr} {vs us : List V}, TrsAt K H b vs → TrsAt K H c us → TrsAt K H (b ++ c) (vs ++ us)
  | [], c, vs, us, h, k => by
    rw [TrsAt] at h
    rw [h]
    exact k
  | t :: r, c, vs, us, h, k => by
    rw [TrsAt] at h
    obtain ⟨v, ws, rfl, a, l⟩ := h
    show TrsAt K H (t :: (r ++ c)) (v :: (ws ++ us))
    rw [TrsAt]
    exact ⟨v, _, rfl, a, TrsAt.append l k⟩
theorem TrsAt.one {K : PySem.W.Frag} {H : Hp} {t : Tr} {v : V} (h : TrAt K H t v) : TrsAt K H [t] [v] := by
  rw [TrsAt]
  exact ⟨v, [], rfl, h, by rw [TrsAt]⟩
theorem TrsAt.nil {K : PySem.W.Frag} {H : Hp} : TrsAt K H [] [] := by rw [TrsAt]
/-! ### promises about trees -/
def spTI (K : PySem.W.Frag) (ok : List Tr → Prop) (f : List Tr → Int) : Sp := fun vs H Q _ => ∃ v b, vs = [v] ∧ BodyAt K H b v ∧ ok b ∧ ∀ H', Same H H' → Q (.int (f b)) H'
def spWI (K : PySem.W.Frag) (ok : List Tr → Prop) : Sp := fun vs H Q _ => ∃ v b w, vs = [v, .str w] ∧ BodyAt K H b v ∧ ok b ∧ w ≠ "loop" ∧ ∀ H', Same H H' → Q (.int (cnts w b)) H'
theorem same_upd {H H' : Hp} {D : Addr} {o : HO} (s : Same H H') (n : H D = none) : Same H (upd H' D o) := fun b x e => by
  rw [upd_ne (ne_of_none e n)]
  exact s _ _ e
end Lj
namespace Lj
mutual
theorem Tr.dep_nn : ∀ t : Tr, 0 ≤ t.dep
  | .op _ _ => by rw [Tr.dep]; decide
  | .loop _ b => by
    rw [Tr.dep]
    have := deps_nn b
    omega
theorem deps_nn : ∀ b : List Tr, 0 ≤ deps b
  | [] => by rw [deps]; decide
  | t :: r => by
    rw [deps]
    have h1 := Tr.dep_nn t
    have h2 := deps_nn r
    split <;> omega
end
end Lj
set_option Elab.async false
set_option linter.all false
set_option maxRecDepth 100000
namespace Lj
open PySem PySem.Spec PyProof.Rows L2
/-! ### list.count of texts -/
/-! ### instructions as the laws draw them -/
def W7 : List Str := ["set", "copy", "add", "scale", "swap", "read", "write"]
theorem W7_noloop {w : Str} (h : w ∈ W7) : w ≠ "loop" := by
  have z : (W7.all fun w => !(w == ("loop" : Str))) = true := by decide
  have k := List.all_eq_true.mp z w h
  intro e
  subst e
  revert k
  decide
theorem W7_ok {w : Str} (h : w ∈ W7) : PyData.strOk w = true := by
  have z : (W7.all fun w => PyData.strOk w) = true := by decide +kernel
  exact List.all_eq_true.mp z w h
def GoodOp (p n : Int) (w : Str) (as : List Int) : Prop :=
  ((w = "set" ∨ w = "scale") ∧ ∃ x c, as = [x, c] ∧ 0 ≤ x ∧ x < n ∧ 0 ≤ c ∧ c < p) ∨
  ((w = "read" ∨ w = "write") ∧ ∃ x, as = [x] ∧ 0 ≤ x ∧ x < n) ∨
  ((w = "copy" ∨ w = "swap") ∧ ∃ x y, as = [x, y] ∧ 0 ≤ x ∧ x < n ∧ 0 ≤ y ∧ y < n ∧ x ≠ y) ∨
  (w = "add" ∧ ∃ x y c, as = [x, y, c] ∧ 0 ≤ x ∧ x < n ∧ 0 ≤ y ∧ y < n ∧ x ≠ y ∧ 1 ≤ c ∧ c < p)
theorem GoodOp.w7 {p n : Int} {w : Str} {as : List Int} (h : GoodOp p n w as) : w ∈ W7 := by
  rcases h with ⟨rfl | rfl, _⟩ | ⟨rfl | rfl, _⟩ | ⟨rfl | rfl, _⟩ | ⟨rfl, _⟩ <;> decide
mutual
/-- drawn: at most l instructions, loops at most d deep, half as many within; G: of the others, R: of the rounds -/
def Tr.made (G : Str → List Int → Prop) (R : Int → Prop) : Tr → Nat → Nat → Prop
  | .op w as, _, _ => G w as
  | .loop _ _, _, 0 => False
  | .loop k b, l, d + 1 => R k ∧ b.length ≤ l / 2 ∧ mades G R b (l / 2) d
def mades (G : Str → List Int → Prop) (R : Int → Prop) : List Tr → Nat → Nat → Prop
  | [], _, _ => True
  | t :: r, l, d => t.made G R l d ∧ mades G R r l d
end
theorem mades_nil {G : Str → List Int → Prop} {R : Int → Prop} {l d : Nat} : mades G R [] l d := by
  rw [mades]
  trivial
mutual
theorem Tr.made_wf {G : Str → List Int → Prop} {R : Int → Prop} (hG : ∀ w as, G w as → w ∈ W7) (hR : ∀ k, R k → 0 ≤ k ∧ k ≤ 10 ^ 18) : ∀ (t : Tr) (l d : Nat), l ≤ 1000 → t.made G R l d → t.wf d
  | .op w as, l, d, _, h => by
    rw [Tr.made] at h
    rw [Tr.wf]
    exact W7_noloop (hG w as h)
  | .loop k b, l, 0, _, h => by
    rw [Tr.made] at h
    exact h.elim
  | .loop k b, l, d + 1, hl, h => by
    rw [Tr.made] at h
    rw [Tr.wf]
    exact ⟨(hR k h.1).1, (hR k h.1).2, by omega, mades_wf hG hR b (l / 2) d (by omega) h.2.2⟩
theorem mades_wf {G : Str → List Int → Prop} {R : Int → Prop} (hG : ∀ w as, G w as → w ∈ W7) (hR : ∀ k, R k → 0 ≤ k ∧ k ≤ 10 ^ 18) : ∀ (b : List Tr) (l d : Nat), l ≤ 1000 → mades G R b l d → wfs b d
  | [], _, _, _, _ => by rw [wfs]; trivial
  | t :: r, l, d, hl, h => by
    rw [mades] at h
    rw [wfs]
    exact ⟨Tr.made_wf hG hR t l d hl h.1, mades_wf hG hR r l d hl h.2⟩
end
/-- the most steps that such a body executes, loops of at most 3 rounds -/
def most : Nat → Nat → Nat
  | 0, _ => 1
  | d + 1, l => max 1 (3 * ((l / 2) * most d (l / 2)))
mutual
theorem Tr.made_ex {G : Str → List Int → Prop} {R : Int → Prop} (hR : ∀ k, R k → 0 ≤ k ∧ k ≤ 3) : ∀ (t : Tr) (l d : Nat), t.made G R l d → t.ex.length ≤ most d l
  | .op w as, l, 0, h => by rw [Tr.ex, most]; exact Nat.le_refl 1
  | .op w as, l, d + 1, h => by rw [Tr.ex, most]; exact Nat.le_max_left _ _
  | .loop k b, l, 0, h => by
    rw [Tr.made] at h
    exact h.elim
  | .loop k b, l, d + 1, h => by
    rw [Tr.made] at h
    have ih := mades_ex hR b (l / 2) d h.2.2
    have hk := hR k h.1
    rw [Tr.ex, most, List.length_flatten, List.map_replicate, List.sum_replicate_nat]
    refine Nat.le_trans ?_ (Nat.le_max_right _ _)
    have h1 : (exs b).length ≤ l / 2 * most d (l / 2) := Nat.le_trans ih (Nat.mul_le_mul_right _ h.2.1)
    exact Nat.mul_le_mul (by omega) h1
theorem mades_ex {G : Str → List Int → Prop} {R : Int → Prop} (hR : ∀ k, R k → 0 ≤ k ∧ k ≤ 3) : ∀ (b : List Tr) (l d : Nat), mades G R b l d → (exs b).length ≤ b.length * most d l
  | [], _, _, _ => by rw [exs]; exact Nat.zero_le _
  | t :: r, l, d, h => by
    rw [mades] at h
    have h1 := Tr.made_ex hR t l d h.1
    have h2 := mades_ex hR r l d h.2
    rw [exs, List.length_append, List.length_cons, Nat.succ_mul]
    omega
end
/-! ### what is executed: numbers -/
theorem flat_len {α : Type} (n : Nat) (xs : List α) : ((List.replicate n xs).flatten).length = n * xs.length := by
  rw [List.length_flatten, List.map_replicate, List.sum_replicate_nat]
mutual
theorem Tr.ex_len : ∀ (t : Tr) (d : Nat), t.wf d → (t.ex.length : Int) = t.len
  | .op w as, _, _ => by rw [Tr.ex, Tr.len]; rfl
  | .loop k b, 0, h => by rw [Tr.wf] at h; exact h.elim
  | .loop k b, d + 1, h => by
    rw [Tr.wf] at h
    have ih := exs_len b d h.2.2.2
    rw [Tr.ex, Tr.len, flat_len, ← ih, Int.natCast_mul]
    congr 1
    omega
theorem exs_len : ∀ (b : List Tr) (d : Nat), wfs b d → ((exs b).length : Int) = lens b
  | [], _, _ => by rw [exs, lens]; rfl
  | t :: r, d, h => by
    rw [wfs] at h
    rw [exs, lens, List.length_append, Int.natCast_add, Tr.ex_len t d h.1, exs_len r d h.2]
end
/-- the word of an instruction -/
def Tr.word : Tr → Str
  | .op w _ => w
  | .loop _ _ => "loop"
theorem count_flat (z : Str) (xs : List Tr) : ∀ n : Nat, (((List.replicate n xs).flatten).map Tr.word).count z = n * (xs.map Tr.word).count z
  | 0 => by simp
  | n + 1 => by rw [List.replicate_succ, List.flatten_cons, List.map_append, List.count_append, count_flat z xs n, Nat.succ_mul, Nat.add_comm]
mutual
theorem Tr.ex_cnt (z : Str) : ∀ (t : Tr) (d : Nat), t.wf d → (((t.ex.map Tr.word).count z : Nat) : Int) = t.cnt z
  | .op w as, _, _ => by
    rw [Tr.ex, Tr.cnt]
    show (([w].count z : Nat) : Int) = _
    rw [List.count_singleton]
    by_cases e : w = z
    · rw [if_pos e, if_pos (beq_iff_eq.mpr e)]
      rfl
    · rw [if_neg e, if_neg (fun h => e (beq_iff_eq.mp h))]
      rfl
  | .loop k b, 0, h => by rw [Tr.wf] at h; exact h.elim
  | .loop k b, d + 1, h => by
    rw [Tr.wf] at h
    have ih := exs_cnt z b d h.2.2.2
    rw [Tr.ex, Tr.cnt, count_flat, ← ih, Int.natCast_mul]
    congr 1
    omega
theorem exs_cnt (z : Str) : ∀ (b : List Tr) (d : Nat), wfs b d → ((((exs b).map Tr.word).count z : Nat) : Int) = cnts z b
  | [], _, _ => by rw [exs, cnts]; rfl
  | t :: r, d, h => by
    rw [wfs] at h
    rw [exs, cnts, List.map_append, List.count_append, Int.natCast_add, Tr.ex_cnt z t d h.1, exs_cnt z r d h.2]
end
/-- all are no loops -/
def Ops (b : List Tr) : Prop := ∀ t ∈ b, ∃ w as, t = .op w as ∧ w ∈ W7
mutual
theorem Tr.ex_ops {G : Str → List Int → Prop} {R : Int → Prop} (hG : ∀ w as, G w as → w ∈ W7) : ∀ (t : Tr) (l d : Nat), t.made G R l d → Ops t.ex
  | .op w as, l, d, h => by
    rw [Tr.made] at h
    rw [Tr.ex]
    intro t m
    exact ⟨w, as, List.mem_singleton.mp m, hG w as h⟩
  | .loop k b, l, 0, h => by rw [Tr.made] at h; exact h.elim
  | .loop k b, l, d + 1, h => by
    rw [Tr.made] at h
    rw [Tr.ex]
    intro t m
    obtain ⟨xs, m1, m2⟩ := List.mem_flatten.mp m
    rw [(List.mem_replicate.mp m1).2] at m2
    exact exs_ops hG b (l / 2) d h.2.2 t m2
theorem exs_ops {G : Str → List Int → Prop} {R : Int → Prop} (hG : ∀ w as, G w as → w ∈ W7) : ∀ (b : List Tr) (l d : Nat), mades G R b l d → Ops (exs b)
  | [], _, _, _ => by rw [exs]; intro t m; cases m
  | t :: r, l, d, h => by
    rw [mades] at h
    rw [exs]
    intro u m
    rcases List.mem_append.mp m with m | m
    · exact Tr.ex_ops hG t l d h.1 u m
    · exact exs_ops hG r l d h.2 u m
end
/-! ### data of instructions -/
def Tr.dat : Tr → PyData
  | .op w as => .tuple (.str w :: as.map .int)
  | .loop _ _ => .none
theorem dp_ints {K : PySem.W.Frag} {H : Hp} : ∀ as : List Int, DpAll K H (as.map V.int) (as.map PyData.int)
  | [] => .nil
  | a :: r => .cons (.int a) (dp_ints r)
theorem lay_ints : ∀ as : List Int, PyData.canLayAll0 (as.map PyData.int) = true
  | [] => by rw [List.map_nil, PyData.canLayAll0]
  | a :: r => by rw [List.map_cons, PyData.canLayAll0, PyData.canLay0, lay_ints r]; rfl
theorem depth_ints : ∀ as : List Int, PyData.depthAll (as.map PyData.int) = 0
  | [] => by rw [List.map_nil, PyData.depthAll]
  | a :: r => by rw [List.map_cons, PyData.depthAll, PyData.depth, depth_ints r]; rfl
theorem Ops.dp {K : PySem.W.Frag} {H : Hp} : ∀ {b : List Tr} {vs : List V}, Ops b → TrsAt K H b vs → DpAll K H vs (b.map Tr.dat)
  | [], vs, _, h => by
    rw [TrsAt] at h
    rw [h]
    exact .nil
  | t :: r, vs, o, h => by
    rw [TrsAt] at h
    obtain ⟨v, us, rfl, a, k⟩ := h
    obtain ⟨w, as, rfl, _⟩ := o t List.mem_cons_self
    rw [TrAt] at a
    obtain ⟨x, rfl, sq⟩ := a
    exact .cons (.tup sq (.cons (.str w) (dp_ints as))) (Ops.dp (fun u m => o u (List.mem_cons_of_mem _ m)) k)
theorem Ops.lay : ∀ {b : List Tr}, Ops b → PyData.canLayAll0 (b.map Tr.dat) = true
  | [], _ => by rw [List.map_nil, PyData.canLayAll0]
  | t :: r, o => by
    obtain ⟨w, as, rfl, hw⟩ := o t List.mem_cons_self
    rw [List.map_cons, PyData.canLayAll0, Ops.lay (fun u m => o u (List.mem_cons_of_mem _ m)), Tr.dat, PyData.canLay0, PyData.canLayAll0, PyData.canLay0, W7_ok hw, lay_ints]
    rfl
theorem Ops.deep : ∀ {b : List Tr}, Ops b → PyData.depthAll (b.map Tr.dat) ≤ 1
  | [], _ => by rw [List.map_nil, PyData.depthAll]; exact Nat.zero_le _
  | t :: r, o => by
    obtain ⟨w, as, rfl, hw⟩ := o t List.mem_cons_self
    have ih := Ops.deep (b := r) (fun u m => o u (List.mem_cons_of_mem _ m))
    rw [List.map_cons, PyData.depthAll, Tr.dat, PyData.depth, PyData.depthAll, PyData.depth, depth_ints]
    omega
theorem Ops.shaped {b : List Tr} (o : Ops b) : SeqAt.shaped (.list (b.map Tr.dat)) = true := by
  unfold SeqAt.shaped
  rw [PyData.canLay0, o.lay, PyData.depth, decide_eq_true (by have := o.deep; omega)]
  rfl
theorem eqv_nil : ∀ b : List PyData, PyData.eqv (.list b) (.list []) = b.isEmpty
  | [] => by rw [PyData.eqv, PyData.eqvAll]; rfl
  | a :: r => by rw [PyData.eqv, PyData.eqvAll]; rfl
/-! ### promises of the law's own defs -/
mutual
/-- every body within executes a bounded number of steps -/
def Tr.fine : Tr → Prop
  | .op w _ => w ∈ W7
  | .loop _ b => (exs b).length ≤ 100000 ∧ fines b
def fines : List Tr → Prop
  | [] => True
  | t :: r => t.fine ∧ fines r
end
mutual
theorem Tr.fine_ops : ∀ t : Tr, t.fine → Ops t.ex
  | .op w as, h => by
    rw [Tr.fine] at h
    rw [Tr.ex]
    intro t m
    exact ⟨w, as, List.mem_singleton.mp m, h⟩
  | .loop k b, h => by
    rw [Tr.fine] at h
    rw [Tr.ex]
    intro t m
    obtain ⟨xs, m1, m2⟩ := List.mem_flatten.mp m
    rw [(List.mem_replicate.mp m1).2] at m2
    exact fines_ops b h.2 t m2
theorem fines_ops : ∀ b : List Tr, fines b → Ops (exs b)
  | [], _ => by rw [exs]; intro t m; cases m
  | t :: r, h => by
    rw [fines] at h
    rw [exs]
    intro u m
    rcases List.mem_append.mp m with m | m
    · exact Tr.fine_ops t h.1 u m
    · exact fines_ops r h.2 u m
end
theorem most0 : ∀ d, most d 0 = 1
  | 0 => rfl
  | d + 1 => by
    rw [most]
    show max 1 (3 * (0 * _)) = 1
    rw [Nat.zero_mul]
    rfl
mutual
theorem Tr.made_fine {G : Str → List Int → Prop} {R : Int → Prop} (hG : ∀ w as, G w as → w ∈ W7) (hR : ∀ k, R k → 0 ≤ k ∧ k ≤ 3) : ∀ (t : Tr) (l d : Nat), max 1 l * most d l ≤ 100000 → t.made G R l d → t.fine
  | .op w as, l, d, _, h => by
    rw [Tr.made] at h
    rw [Tr.fine]
    exact hG w as h
  | .loop k b, l, 0, _, h => by rw [Tr.made] at h; exact h.elim
  | .loop k b, l, d + 1, hb, h => by
    rw [Tr.made] at h
    rw [Tr.fine]
    have h1 : 3 * (l / 2 * most d (l / 2)) ≤ 100000 := by
      have h0 : most (d + 1) l ≤ 100000 := Nat.le_trans (Nat.le_mul_of_pos_left _ (by omega)) hb
      rw [most] at h0
      exact Nat.le_trans (Nat.le_max_right _ _) h0
    have h2 := mades_ex hR b (l / 2) d h.2.2
    have h3 : b.length * most d (l / 2) ≤ l / 2 * most d (l / 2) := Nat.mul_le_mul_right _ h.2.1
    refine ⟨by omega, mades_fine hG hR b (l / 2) d ?_ h.2.2⟩
    by_cases z : l / 2 = 0
    · rw [z, most0]
      decide
    · rw [show max 1 (l / 2) = l / 2 by omega]
      omega
theorem mades_fine {G : Str → List Int → Prop} {R : Int → Prop} (hG : ∀ w as, G w as → w ∈ W7) (hR : ∀ k, R k → 0 ≤ k ∧ k ≤ 3) : ∀ (b : List Tr) (l d : Nat), max 1 l * most d l ≤ 100000 → mades G R b l d → fines b
  | [], _, _, _, _ => by rw [fines]; trivial
  | t :: r, l, d, hl, h => by
    rw [mades] at h
    rw [fines]
    exact ⟨Tr.made_fine hG hR t l d hl h.1, mades_fine hG hR r l d hl h.2⟩
end
end Lj
set_option Elab.async false
set_option linter.all false
set_option maxRecDepth 100000
namespace Lj
open PySem PySem.Spec PyProof.Rows L2
theorem iteNN {c A B : Prop} [Decidable c] (h : ¬ c) (a : A) : if (!decide c) = true then A else B := by
  rw [decide_eq_false h]
  exact a
/-! ### repr of lists of numbers -/
/-- a number, None, a truth value, shown in a few signs -/
def Leaf (d : PyData) : Prop := d.showable = true ∧ d.hasDict = false ∧ d.depth = 0 ∧ d.shown.length ≤ 1921
theorem leaf_int {i : Int} (h : i.natAbs.log2 < 1920) : Leaf (.int i) := ⟨by rw [PyData.showable]; exact decide_eq_true h, by rw [PyData.hasDict], by rw [PyData.depth], by rw [PyData.shown]; exact int_text_len_1921 h⟩
theorem leaf_none : Leaf .none := ⟨by rw [PyData.showable], by rw [PyData.hasDict], by rw [PyData.depth], by rw [PyData.shown]; decide⟩
theorem leaf_all : ∀ {ds : List PyData}, (∀ d ∈ ds, Leaf d) → PyData.showableAll ds = true ∧ PyData.hasDictAll ds = false ∧ PyData.depthAll ds = 0 ∧ ((PyData.shownAll ds).map (·.length)).sum ≤ 1921 * ds.length ∧ (PyData.shownAll ds).length = ds.length
  | [], _ => ⟨by rw [PyData.showableAll], by rw [PyData.hasDictAll], by rw [PyData.depthAll], by rw [PyData.shownAll]; exact Nat.zero_le _, by rw [PyData.shownAll]; rfl⟩
  | d :: r, h => by
    obtain ⟨a1, a2, a3, a4⟩ := h d List.mem_cons_self
    obtain ⟨b1, b2, b3, b4, b5⟩ := leaf_all (ds := r) fun x m => h x (List.mem_cons_of_mem _ m)
    refine ⟨by rw [PyData.showableAll, a1, b1]; rfl, by rw [PyData.hasDictAll, a2, b2]; rfl, by rw [PyData.depthAll, a3, b3]; rfl, ?_, by rw [PyData.shownAll, List.length_cons, b5, List.length_cons]⟩
    rw [PyData.shownAll, List.map_cons, List.sum_cons, List.length_cons]
    omega
theorem log_of {i : Int} {k : Nat} (h : i.natAbs < 2 ^ k) (k0 : 0 < k) (k1 : k ≤ 1920) : i.natAbs.log2 < 1920 := Nat.lt_of_lt_of_le (PySem.Flt.log2_lt_of k0 h) k1
theorem leaf_ints {ns : List Int} (h : ∀ n ∈ ns, n.natAbs < 2 ^ 1000) : ∀ d ∈ ns.map PyData.int, Leaf d := by
  intro d m
  obtain ⟨n, hn, rfl⟩ := List.mem_map.mp m
  exact leaf_int (log_of (h n hn) (by decide) (by decide))
/-! ### bounds -/
def top : Nat → Int
  | 0 => 1
  | d + 1 => 10 ^ 18 * (1000 * top d)
theorem top_pos : ∀ d, 1 ≤ top d
  | 0 => by decide
  | d + 1 => by
    have := top_pos d
    rw [top]
    omega
mutual
theorem Tr.len_bd : ∀ (t : Tr) (d : Nat), t.wf d → 0 ≤ t.len ∧ t.len ≤ top d
  | .op w as, d, _ => by
    rw [Tr.len]
    exact ⟨by decide, top_pos d⟩
  | .loop k b, 0, h => by rw [Tr.wf] at h; exact h.elim
  | .loop k b, d + 1, h => by
    rw [Tr.wf] at h
    obtain ⟨i0, i1⟩ := lens_bd b d h.2.2.2
    have tp := top_pos d
    have i2 : lens b ≤ 1000 * top d := Int.le_trans i1 (Int.mul_le_mul_of_nonneg_right (by omega) (by omega))
    rw [Tr.len, top]
    exact ⟨Int.mul_nonneg h.1 i0, Int.mul_le_mul h.2.1 i2 i0 (by decide)⟩
theorem lens_bd : ∀ (b : List Tr) (d : Nat), wfs b d → 0 ≤ lens b ∧ lens b ≤ (b.length : Int) * top d
  | [], d, _ => by rw [lens]; exact ⟨by decide, by simp⟩
  | t :: r, d, h => by
    rw [wfs] at h
    obtain ⟨a0, a1⟩ := Tr.len_bd t d h.1
    obtain ⟨b0, b1⟩ := lens_bd r d h.2
    rw [lens, List.length_cons]
    refine ⟨by omega, ?_⟩
    rw [show ((r.length + 1 : Nat) : Int) = (r.length : Int) + 1 from rfl, Int.add_mul, Int.one_mul]
    omega
end
mutual
theorem Tr.cnt_bd (z : Str) : ∀ (t : Tr) (d : Nat), t.wf d → 0 ≤ t.cnt z ∧ t.cnt z ≤ t.len
  | .op w as, d, _ => by
    rw [Tr.len, Tr.cnt]
    split <;> exact ⟨by decide, by decide⟩
  | .loop k b, 0, h => by rw [Tr.wf] at h; exact h.elim
  | .loop k b, d + 1, h => by
    rw [Tr.wf] at h
    obtain ⟨i0, i1⟩ := cnts_bd z b d h.2.2.2
    rw [Tr.len, Tr.cnt]
    exact ⟨Int.mul_nonneg h.1 i0, Int.mul_le_mul_of_nonneg_left i1 h.1⟩
theorem cnts_bd (z : Str) : ∀ (b : List Tr) (d : Nat), wfs b d → 0 ≤ cnts z b ∧ cnts z b ≤ lens b
  | [], d, _ => by rw [lens, cnts]; exact ⟨by decide, by decide⟩
  | t :: r, d, h => by
    rw [wfs] at h
    obtain ⟨a0, a1⟩ := Tr.cnt_bd z t d h.1
    obtain ⟨b0, b1⟩ := cnts_bd z r d h.2
    rw [lens, cnts]
    omega
end
mutual
theorem Tr.inn_bd : ∀ (t : Tr) (d : Nat), t.wf d → 0 ≤ t.inn ∧ t.inn ≤ top d
  | .op w as, d, _ => by
    rw [Tr.inn]
    have := top_pos d
    omega
  | .loop k b, 0, h => by rw [Tr.wf] at h; exact h.elim
  | .loop k b, d + 1, h => by
    rw [Tr.wf] at h
    obtain ⟨i0, i1⟩ := inns_bd b d h.2.2.2
    have tp := top_pos d
    have i2 : inns b ≤ 1000 * top d := Int.le_trans i1 (Int.mul_le_mul_of_nonneg_right (by omega) (by omega))
    rw [Tr.inn, top]
    omega
theorem inns_bd : ∀ (b : List Tr) (d : Nat), wfs b d → 0 ≤ inns b ∧ inns b ≤ (b.length : Int) * top d
  | [], d, _ => by rw [inns]; exact ⟨by decide, by simp⟩
  | t :: r, d, h => by
    rw [wfs] at h
    obtain ⟨a0, a1⟩ := Tr.inn_bd t d h.1
    obtain ⟨b0, b1⟩ := inns_bd r d h.2
    rw [inns, List.length_cons]
    refine ⟨by omega, ?_⟩
    rw [show ((r.length + 1 : Nat) : Int) = (r.length : Int) + 1 from rfl, Int.add_mul, Int.one_mul]
    omega
end
mutual
theorem Tr.dep_bd : ∀ (t : Tr) (d : Nat), t.wf d → t.dep ≤ d
  | .op w as, d, _ => by rw [Tr.dep]; omega
  | .loop k b, 0, h => by rw [Tr.wf] at h; exact h.elim
  | .loop k b, d + 1, h => by
    rw [Tr.wf] at h
    have := deps_bd b d h.2.2.2
    rw [Tr.dep]
    omega
theorem deps_bd : ∀ (b : List Tr) (d : Nat), wfs b d → deps b ≤ d
  | [], d, _ => by rw [deps]; omega
  | t :: r, d, h => by
    rw [wfs] at h
    have h1 := Tr.dep_bd t d h.1
    have h2 := deps_bd r d h.2
    rw [deps]
    split <;> omega
end
/-! ### once, and with great rounds -/
mutual
def Tr.once : Tr → Tr
  | .op w as => .op w as
  | .loop _ b => .loop 1 (onces b)
def onces : List Tr → List Tr
  | [] => []
  | t :: r => t.once :: onces r
end
theorem onces_map : ∀ b : List Tr, onces b = b.map Tr.once
  | [] => by rw [onces]; rfl
  | t :: r => by rw [onces, onces_map r]; rfl
mutual
theorem Tr.made_once {G : Str → List Int → Prop} {R : Int → Prop} : ∀ (t : Tr) (l d : Nat), t.made G R l d → t.once.made G (fun k => k = 1) l d
  | .op w as, l, d, h => by
    rw [Tr.made] at h
    rw [Tr.once, Tr.made]
    exact h
  | .loop k b, l, 0, h => by rw [Tr.made] at h; exact h.elim
  | .loop k b, l, d + 1, h => by
    rw [Tr.made] at h
    rw [Tr.once, Tr.made]
    exact ⟨rfl, by rw [onces_map, List.length_map]; exact h.2.1, mades_once b (l / 2) d h.2.2⟩
theorem mades_once {G : Str → List Int → Prop} {R : Int → Prop} : ∀ (b : List Tr) (l d : Nat), mades G R b l d → mades G (fun k => k = 1) (onces b) l d
  | [], l, d, _ => by rw [onces]; exact mades_nil
  | t :: r, l, d, h => by
    rw [mades] at h
    rw [onces, mades]
    exact ⟨Tr.made_once t l d h.1, mades_once r l d h.2⟩
end
/-- no step of the word z, were each loop executed once -/
def NoW (z : Str) (b : List Tr) : Prop := z ∉ (exs (onces b)).map Tr.word
mutual
theorem Tr.noW (z : Str) : ∀ t : Tr, z ∉ (t.once.ex).map Tr.word → t.cnt z = 0
  | .op w as, h => by
    rw [Tr.once, Tr.ex] at h
    rw [Tr.cnt, if_neg]
    intro e
    exact h (by subst e; exact List.mem_singleton.mpr rfl)
  | .loop k b, h => by
    rw [Tr.once, Tr.ex] at h
    rw [Tr.cnt, noWs z b (by
      intro m
      refine h ?_
      show z ∈ (List.flatten [exs (onces b)]).map Tr.word
      rw [List.flatten_cons, List.flatten_nil, List.append_nil]
      exact m), Int.mul_zero]
theorem noWs (z : Str) : ∀ b : List Tr, NoW z b → cnts z b = 0
  | [], _ => by rw [cnts]
  | t :: r, h => by
    unfold NoW at h
    rw [onces, exs, List.map_append, List.mem_append] at h
    rw [cnts, Tr.noW z t (fun m => h (.inl m)), noWs z r (fun m => h (.inr m))]
    rfl
end
mutual
/-- the same but for rounds, and these only where nothing is read or written -/
def Tr.gr : Tr → Tr → Prop
  | .op w as, t => t = .op w as
  | .loop k b, t => ∃ k' b', t = .loop k' b' ∧ 0 ≤ k' ∧ k' ≤ 10 ^ 18 ∧ grs b b' ∧ (k' = k ∨ (NoW "read" b' ∧ NoW "write" b'))
def grs : List Tr → List Tr → Prop
  | [], g => g = []
  | t :: r, g => ∃ t' r', g = t' :: r' ∧ t.gr t' ∧ grs r r'
end
mutual
theorem Tr.gr_all : ∀ (t t' : Tr), t.gr t' → t'.once = t.once ∧ t'.inn = t.inn ∧ t'.dep = t.dep ∧ (∀ d, t.wf d → t'.wf d) ∧ (∀ G R l d, t.made G R l d → t'.made G (fun k => R k ∨ (0 ≤ k ∧ k ≤ 10 ^ 18)) l d) ∧ ((t.cnt "read" = t'.cnt "read") ∧ (t.cnt "write" = t'.cnt "write"))
  | .op w as, t', h => by
    rw [Tr.gr] at h
    subst h
    refine ⟨rfl, rfl, rfl, fun _ h => h, fun G R l d h => ?_, rfl, rfl⟩
    rw [Tr.made] at h ⊢
    exact h
  | .loop k b, t', h => by
    rw [Tr.gr] at h
    obtain ⟨k', b', rfl, k0, k1, hg, hk⟩ := h
    obtain ⟨e1, e2, e3, e4, e5, e6, e7⟩ := grs_all b b' hg
    refine ⟨by rw [Tr.once, Tr.once, e1], by rw [Tr.inn, Tr.inn, e2, e7.1], by rw [Tr.dep, Tr.dep, e3], fun d h => ?_, fun G R l d h => ?_, ?_⟩
    · cases d with
      | zero => rw [Tr.wf] at h; exact h.elim
      | succ d =>
        rw [Tr.wf] at h ⊢
        exact ⟨k0, k1, by rw [e7.1]; exact h.2.2.1, e4 d h.2.2.2⟩
    · cases d with
      | zero => rw [Tr.made] at h; exact h.elim
      | succ d =>
        rw [Tr.made] at h ⊢
        exact ⟨.inr ⟨k0, k1⟩, by rw [e7.1]; exact h.2.1, e5 G R _ _ h.2.2⟩
    · rw [Tr.cnt, Tr.cnt, Tr.cnt, Tr.cnt]
      rcases hk with rfl | ⟨n1, n2⟩
      · rw [e6.1, e6.2]
        exact ⟨rfl, rfl⟩
      · rw [e6.1, e6.2, noWs _ b' n1, noWs _ b' n2, Int.mul_zero, Int.mul_zero]
        exact ⟨rfl, rfl⟩
theorem grs_all : ∀ (b g : List Tr), grs b g → onces g = onces b ∧ inns g = inns b ∧ deps g = deps b ∧ (∀ d, wfs b d → wfs g d) ∧ (∀ G R l d, mades G R b l d → mades G (fun k => R k ∨ (0 ≤ k ∧ k ≤ 10 ^ 18)) g l d) ∧ ((cnts "read" b = cnts "read" g) ∧ (cnts "write" b = cnts "write" g)) ∧ (g.length = b.length ∧ True)
  | [], g, h => by
    rw [grs] at h
    subst h
    exact ⟨rfl, rfl, rfl, fun _ h => h, fun _ _ _ _ _ => mades_nil, ⟨rfl, rfl⟩, rfl, trivial⟩
  | t :: r, g, h => by
    rw [grs] at h
    obtain ⟨t', r', rfl, h1, h2⟩ := h
    obtain ⟨a1, a2, a3, a4, a5, a6⟩ := Tr.gr_all t t' h1
    obtain ⟨e1, e2, e3, e4, e5, e6, e7⟩ := grs_all r r' h2
    refine ⟨by rw [onces, onces, a1, e1], by rw [inns, inns, a2, e2], by rw [deps, deps, a3, e3], fun d h => ?_, fun G R l d h => ?_, ⟨by rw [cnts, cnts, a6.1, e6.1], by rw [cnts, cnts, a6.2, e6.2]⟩, by rw [List.length_cons, List.length_cons, e7.1], trivial⟩
    · rw [wfs] at h ⊢
      exact ⟨a4 d h.1, e4 d h.2⟩
    · rw [mades] at h ⊢
      exact ⟨a5 G R l d h.1, e5 G R l d h.2⟩
end
theorem same_but {H H1 H2 : Hp} {u : Addr} (s : Same H H1) (n : H u = none) (b : But u H1 H2) : Same H H2 := fun x o e => b x o (ne_of_none e n) (s x o e)
end Lj
namespace Lj
mutual
theorem Tr.wf_up : ∀ (t : Tr) (n : Nat), t.wf n → t.wf (n + 1)
  | .op w as, n, h => by
    rw [Tr.wf] at h ⊢
    exact h
  | .loop k b, 0, h => by rw [Tr.wf] at h; exact h.elim
  | .loop k b, n + 1, h => by
    rw [Tr.wf] at h ⊢
    exact ⟨h.1, h.2.1, h.2.2.1, wfs_up' b n h.2.2.2⟩
theorem wfs_up' : ∀ (b : List Tr) (n : Nat), wfs b n → wfs b (n + 1)
  | [], n, _ => by rw [wfs]; trivial
  | t :: r, n, h => by
    rw [wfs] at h ⊢
    exact ⟨Tr.wf_up t n h.1, wfs_up' r n h.2⟩
end
end Lj
set_option Elab.async false
set_option linter.all false
set_option maxRecDepth 100000
namespace Lj
open PySem PySem.Spec PyProof.Rows L2
/-! ### data of any kind, dicts too -/
def kD : Key → PyData
  | .inl i => .int i
  | .inr x => .str x
mutual
inductive Dd (K : PySem.W.Frag) (H : Hp) : V → PyData → Prop
  | non : Dd K H .non .none
  | bl (b : Bool) : Dd K H (.bl b) (.bool b)
  | int (i : Int) : Dd K H (.int i) (.int i)
  | str (x : Str) : Dd K H (.str x) (.str x)
  | lst {a : Addr} {xs : List V} {ds : List PyData} (q : SqL K H a xs) (r : DdAll K H xs ds) : Dd K H (.ref a) (.list ds)
  | tup {a : Addr} {xs : List V} {ds : List PyData} (q : SqT K H a xs) (r : DdAll K H xs ds) : Dd K H (.ref a) (.tuple ds)
  | dct {a : Addr} {kvs : List (Key × V)} {kds : List (PyData × PyData)} (q : H a = some (.dK kvs)) (e : kvs.map (fun kv => kD kv.1) = kds.map (·.1)) (r : DdAll K H (kvs.map (·.2)) (kds.map (·.2))) : Dd K H (.ref a) (.dict kds)
inductive DdAll (K : PySem.W.Frag) (H : Hp) : List V → List PyData → Prop
  | nil : DdAll K H [] []
  | cons {v : V} {vs : List V} {d : PyData} {ds : List PyData} (h : Dd K H v d) (t : DdAll K H vs ds) : DdAll K H (v :: vs) (d :: ds)
end
section
variable {X : Cx} {pins : List (Addr × Obj)} {σ : L2.St} {H : Hp} {s : Shared}
/-- the keys of a dict, as texts -/
theorem keys_show {P : Program} {w : World} {h : Heap} {n : Nat} : ∀ {es : List DictEntry} {vs : List (Key × Value)} {ks : List PyData}, Pairs (mixKind P w) es vs → vs.map (fun kv => kD kv.1) = ks → PyData.showableAll ks = true → (∀ t ∈ PyData.shownAll ks, t.length ≤ sizeLine) →
    (∃ as, ReadsAll h (es.map (·.key)) ks as) ∧ ReprAllK P w [] h n (es.map (·.key)) (PyData.shownAll ks) := by
  intro es vs ks hp
  induction hp generalizing ks with
  | nil =>
    rintro rfl _ _
    exact ⟨⟨_, .nil⟩, .nil⟩
  | @cons e kv es kvs hk hv _ ih =>
    rintro rfl hs hz
    simp only [List.map_cons, PyData.showableAll, Bool.and_eq_true] at hs
    obtain ⟨⟨as, i1⟩, i2⟩ := ih rfl hs.2 fun t m => hz t (by simp only [List.map_cons, PyData.shownAll]; exact List.mem_cons_of_mem _ m)
    have hz0 := hz (kD kv.1).shown (by simp only [List.map_cons, PyData.shownAll]; exact List.mem_cons_self ..)
    rcases keyIs_shape hk with ⟨i, t, e1, e2⟩ | ⟨x, t, e1, e2⟩
    · rw [e1] at hs hz0
      refine ⟨⟨[] ++ as, ?_⟩, ?_⟩
      · simp only [List.map_cons, e1, e2]
        exact .cons (.int i t) i1
      · simp only [List.map_cons, e1, e2, PyData.shownAll]
        exact .cons (.of_is (ReprIs.int t (of_decide_eq_true hs.1)) _ _ _) i2
    · rw [e1] at hs hz0
      refine ⟨⟨[] ++ as, ?_⟩, ?_⟩
      · simp only [List.map_cons, e1, e2]
        exact .cons (.str x t) i1
      · simp only [List.map_cons, e1, e2, PyData.shownAll]
        exact .cons (.of_is (ReprIs.str x t hz0) _ _ _) i2
theorem vals_of_pairs {P : Program} {w : World} : ∀ {es : List DictEntry} {vs : List (Key × Value)} {kvs : List (Key × V)}, Pairs (mixKind P w) es vs → KV kvs vs → Vals (kvs.map (·.2)) (es.map (·.val)) ∧ vs.map (fun kv => kD kv.1) = kvs.map (fun kv => kD kv.1) := by
  intro es vs kvs hp
  induction hp generalizing kvs with
  | nil =>
    intro r
    cases r
    exact ⟨.nil, rfl⟩
  | @cons e kv es vs hk hv _ ih =>
    intro r
    cases r with
    | @cons p _ ps _ h t =>
      obtain ⟨i1, i2⟩ := ih t
      exact ⟨.cons (by show RelV p.2 e.val; rw [hv]; exact h.2) i1, by simp only [List.map_cons, i2, h.1]⟩
/-- what is known of a thing to be shown -/
def Sho (P : Program) (w : World) (h : Heap) (u : Value) (d : PyData) : Prop := (∃ as, Reads h u d as) ∧ ∃ bs, ReadAtMost h d.depth bs ∧ ReprK P w bs h d.depth u d.shown
def ShoAll (P : Program) (w : World) (h : Heap) (us : List Value) (ds : List PyData) : Prop := (∃ as, ReadsAll h us ds as) ∧ ∃ bs, ReadAtMost h (PyData.depthAll ds) bs ∧ ReprAllK P w bs h (PyData.depthAll ds) us (PyData.shownAll ds)
theorem no_at {h : Heap} {n : Nat} : ReadAtMost h n [] := fun _ m => nomatch m
mutual
theorem Dd.sho (I : Inv X pins σ H s) : ∀ {v : V} {d : PyData} {u : Value}, Dd X.K H v d → RelV v u → d.showable = true → d.shown.length ≤ sizeLine → Sho X.prog X.w s.heap u d
  | _, _, _, .non, r, _, _ => by
    cases r
    exact ⟨⟨_, .none⟩, [], no_at, .of_is ReprIs.none _ _ _⟩
  | _, _, _, .bl b, r, _, _ => by
    cases r
    exact ⟨⟨_, .bool b⟩, [], no_at, .of_is (ReprIs.bool b) _ _ _⟩
  | _, _, _, .int i, r, hs, _ => by
    obtain ⟨t, rfl⟩ := r
    exact ⟨⟨_, .int i t⟩, [], no_at, .of_is (ReprIs.int t (of_decide_eq_true hs)) _ _ _⟩
  | _, _, _, .str x, r, _, hz => by
    obtain ⟨t, rfl⟩ := r
    exact ⟨⟨_, .str x t⟩, [], no_at, .of_is (ReprIs.str x t hz) _ _ _⟩
  | _, _, _, .lst (a := a) (xs := xs) (ds := ds) q rr, r, hs, hz => by
    cases r
    obtain ⟨its, rv, ⟨o, n, ho, hc, _, hd⟩, _⟩ := I.list q
    obtain ⟨⟨as, rd⟩, bs, rb, rk⟩ := Dd.shoAll I rr rv hs fun t m => Nat.le_trans (listText_mem_le m) hz
    have top : Reads s.heap (.ref a) (.list ds) (a :: as) := .list ho hc hd rd
    refine ⟨⟨_, top⟩, a :: bs, ReadAtMost.cons top (Nat.le_succ _) rb, ?_⟩
    cases its with
    | nil =>
      cases rd
      exact ReprK.listEmpty ho hc hd
    | cons x l => exact ReprK.list ho hc hd (not_mem_of_deeper top (Nat.lt_succ_self _) rb) rk.length_eq fun i y e => rk.item i y (by rw [List.getElem?_toArray] at e; exact e)
  | _, _, _, .tup (a := a) (xs := xs) (ds := ds) q rr, r, hs, hz => by
    cases r
    obtain ⟨its, rv, ⟨o, ho, hc, n, hd⟩, _⟩ := I.tuple q
    obtain ⟨⟨as, rd⟩, bs, rb, rk⟩ := Dd.shoAll I rr rv hs fun t m => Nat.le_trans (tupleText_mem_le m) hz
    have top : Reads s.heap (.ref a) (.tuple ds) as := .tuple ho hc hd rd
    exact ⟨⟨_, top⟩, a :: bs, ReadAtMost.cons top (Nat.le_succ _) rb, ReprK.tuple ho hc hd (not_mem_of_deeper top (Nat.lt_succ_self _) rb) rk⟩
  | _, _, _, .dct (a := a) (kvs := kvs) (kds := kds) q e rr, r, hs, hz => by
    cases r
    obtain ⟨_, hsys, vs, kv, o, es, ep, ho, hc, hd, _, hp, _⟩ := (show ObjOk X.prog X.w H s.heap a (.dK kvs) from I.hok a _ q)
    obtain ⟨s1, s2⟩ := PyData.showableKv_split kds hs
    obtain ⟨v1, v2⟩ := vals_of_pairs hp kv
    obtain ⟨⟨as, rd⟩, bs, rb, rk⟩ := Dd.shoAll I rr v1 s2 fun t m => by
      obtain ⟨p, mp, hl⟩ := PyData.shownKv_val_le kds t m
      exact Nat.le_trans hl (Nat.le_trans (dictText_mem_le mp) hz)
    obtain ⟨⟨as2, kr⟩, kk⟩ := keys_show (h := s.heap) (n := PyData.depthKv kds) hp (v2.trans e) s1 fun t m => by
      obtain ⟨p, mp, hl⟩ := PyData.shownKv_key_le kds t m
      exact Nat.le_trans hl (Nat.le_trans (dictText_mem_le mp) hz)
    have top : Reads s.heap (.ref a) (.dict kds) (a :: as2 ++ as) := .dict ho hc.1 hd kr rd
    have rb' := rb.mono (PyData.depthAll_vals_le kds)
    refine ⟨⟨_, top⟩, a :: bs, ReadAtMost.cons top (Nat.le_succ _) rb', ?_⟩
    have nm : a ∉ bs := not_mem_of_deeper top (Nat.lt_succ_self _) rb'
    have en := ReprEntriesK.of_two es.toList _ _ (kk.more_le (fun b (hb : b ∈ ([] : List Addr)) => absurd hb List.not_mem_nil) (Nat.le_refl _)) (rk.more_le (fun b hb => hb) (PyData.depthAll_vals_le kds))
    rw [← PyData.shownKv_eq] at en
    exact ReprK.dict ho hc.1 hd hsys nm en
theorem Dd.shoAll (I : Inv X pins σ H s) : ∀ {vs : List V} {ds : List PyData} {us : List Value}, DdAll X.K H vs ds → Vals vs us → PyData.showableAll ds = true → (∀ t ∈ PyData.shownAll ds, t.length ≤ sizeLine) → ShoAll X.prog X.w s.heap us ds
  | _, _, _, .nil, r, _, _ => by
    cases r
    exact ⟨⟨_, .nil⟩, [], no_at, .nil⟩
  | _, _, _, .cons (d := d) (ds := ds) h t, .cons r1 r2, hs, hz => by
    have hs' : (d.showable && PyData.showableAll ds) = true := hs
    rw [Bool.and_eq_true] at hs'
    obtain ⟨⟨as, a1⟩, bs, b1, k1⟩ := Dd.sho I h r1 hs'.1 (hz _ (List.mem_cons_self ..))
    obtain ⟨⟨as2, a2⟩, bs2, b2, k2⟩ := Dd.shoAll I t r2 hs'.2 fun t m => hz t (List.mem_cons_of_mem _ m)
    refine ⟨⟨_, .cons a1 a2⟩, bs ++ bs2, (b1.mono (Nat.le_max_left _ _)).append (b2.mono (Nat.le_max_right _ _)), .cons ?_ ?_⟩
    · exact (k1.more fun b m => List.mem_append_left _ m).level_le (Nat.le_max_left _ _)
    · exact k2.more_le (fun b m => List.mem_append_right _ m) (Nat.le_max_right _ _)
end
end
/-! ### it stays -/
mutual
theorem Dd.kt {K : PySem.W.Frag} {H H' : Hp} (l : ∀ {a xs}, SqL K H a xs → SqL K H' a xs) (t : ∀ {a xs}, SqT K H a xs → SqT K H' a xs) (k : ∀ {a kvs}, H a = some (.dK kvs) → H' a = some (.dK kvs)) : ∀ {v : V} {d : PyData}, Dd K H v d → Dd K H' v d
  | _, _, .non => .non
  | _, _, .bl b => .bl b
  | _, _, .int i => .int i
  | _, _, .str x => .str x
  | _, _, .lst q r => .lst (l q) (DdAll.kt l t k r)
  | _, _, .tup q r => .tup (t q) (DdAll.kt l t k r)
  | _, _, .dct q e r => .dct (k q) e (DdAll.kt l t k r)
theorem DdAll.kt {K : PySem.W.Frag} {H H' : Hp} (l : ∀ {a xs}, SqL K H a xs → SqL K H' a xs) (t : ∀ {a xs}, SqT K H a xs → SqT K H' a xs) (k : ∀ {a kvs}, H a = some (.dK kvs) → H' a = some (.dK kvs)) : ∀ {vs : List V} {ds : List PyData}, DdAll K H vs ds → DdAll K H' vs ds
  | _, _, .nil => .nil
  | _, _, .cons h t' => .cons (Dd.kt l t k h) (DdAll.kt l t k t')
end
theorem tup_same {K : PySem.W.Frag} {H H' : Hp} {a : Addr} {xs : List V} (s : Same H H') (h : SqT K H a xs) : SqT K H' a xs := by
  rcases h with (h | ⟨o, h⟩) | h
  · exact .inl (.inl (s _ _ h))
  · exact .inl (.inr ⟨o, s _ _ h⟩)
  · exact .inr h
theorem Dd.same {K : PySem.W.Frag} {H H' : Hp} {v : V} {d : PyData} (s : Same H H') (h : Dd K H v d) : Dd K H' v d := h.kt (fun q => s.seq q) (fun q => tup_same s q) (fun q => s _ _ q)
/-- the heap but for what stands at u -/
def off (u : Addr) (H : Hp) : Hp := fun b => if b = u then none else H b
theorem off_same {u : Addr} {H : Hp} : Same (off u H) H := fun b o h => by
  unfold off at h
  split at h
  · cases h
  · exact h
theorem off_but {u : Addr} {H H' : Hp} (k : But u H H') : Same (off u H) (off u H') := fun b o h => by
  unfold off at h ⊢
  split at h
  · cases h
  · rename_i n
    rw [if_neg n]
    exact k b o n h
theorem Dd.but {K : PySem.W.Frag} {u : Addr} {H H' : Hp} {v : V} {d : PyData} (k : But u H H') (h : Dd K (off u H) v d) : Dd K (off u H') v d := h.same (off_but k)
theorem Dd.on {K : PySem.W.Frag} {u : Addr} {H : Hp} {v : V} {d : PyData} (h : Dd K (off u H) v d) : Dd K H v d := h.same off_same
/-- the kind of a thing -/
theorem Dd.ty {K : PySem.W.Frag} {H : Hp} {v : V} {d : PyData} (h : Dd K H v d) : ∃ T : String, TyX K H v (.type T) ∧ (T = "int" ↔ ∃ i, v = .int i) ∧ (T = "bool" ↔ ∃ b, v = .bl b) ∧ T ∈ ["NoneType", "bool", "int", "str", "list", "tuple", "dict"] := by
  cases h with
  | non => exact ⟨"NoneType", .base .non, by simp, by simp, by simp⟩
  | bl b => exact ⟨"bool", .base (.bl b), by simp, by simp, by simp⟩
  | int i => exact ⟨"int", .base (.int i), by simp, by simp, by simp⟩
  | str x => exact ⟨"str", .base (.str x), by simp, by simp, by simp⟩
  | lst q r =>
    refine ⟨"list", ?_, by simp, by simp, by simp⟩
    rcases q with (q | ⟨o, q⟩) | ⟨o, its, n, q, c, _⟩
    · exact .base (.lst q)
    · exact .base (.frz q)
    · exact .kList q c
  | tup q r =>
    refine ⟨"tuple", ?_, by simp, by simp, by simp⟩
    rcases q with (q | ⟨o, q⟩) | ⟨o, its, n, q, c, _⟩
    · exact .base (.tup q)
    · exact .fTuple q
    · exact .kTuple q c
  | dct q e r => exact ⟨"dict", .base (.dK q), by simp, by simp, by simp⟩
/-! ### data that is shown in few signs -/
def Nice (n : Nat) (d : PyData) : Prop := d.showable = true ∧ d.depth ≤ n ∧ d.shown.length ≤ 3000 + 20 * n
theorem Nice.up {n m : Nat} {d : PyData} (h : Nice n d) (l : n ≤ m) : Nice m d := ⟨h.1, Nat.le_trans h.2.1 l, Nat.le_trans h.2.2 (by omega)⟩
theorem Nice.line {n : Nat} {d : PyData} (h : Nice n d) (l : n ≤ 64) : d.showable = true ∧ d.depth ≤ 64 ∧ d.shown.length ≤ sizeLine := ⟨h.1, Nat.le_trans h.2.1 l, Nat.le_trans h.2.2 (by rw [sizeLine_eq]; omega)⟩
end Lj
set_option Elab.async false
set_option linter.all false
set_option maxRecDepth 100000
namespace Lj
open PySem PySem.Spec PyProof.Rows L2
/-! ### urns that count what is drawn -/
def Ur (c : Nat) (H : Hp) (p : Addr) : Prop := ∃ u v k : Int, H p = some (.lst [.int u, .int v, .int k]) ∧ 0 ≤ u ∧ 0 ≤ v ∧ v < 2305843009213693951 ∧ 0 ≤ k ∧ k ≤ c
theorem Ur.but {c : Nat} {p q : Addr} {H H' : Hp} (b : But q H H') (n : p ≠ q) (h : Ur c H p) : Ur c H' p := by
  obtain ⟨u, v, k, e, r⟩ := h
  exact ⟨u, v, k, b _ _ n e, r⟩
theorem Ur.same {c : Nat} {p : Addr} {H H' : Hp} (b : Same H H') (h : Ur c H p) : Ur c H' p := by
  obtain ⟨u, v, k, e, r⟩ := h
  exact ⟨u, v, k, b _ _ e, r⟩
theorem Ur.ne {c : Nat} {p q : Addr} {H : Hp} (h : Ur c H p) (e : H q = none) : q ≠ p := by
  obtain ⟨u, v, k, e2, _⟩ := h
  exact (ne_of_none e2 e).symm
theorem Ur.up {c d : Nat} {p : Addr} {H : Hp} (h : Ur c H p) (l : c ≤ d) : Ur d H p := by
  obtain ⟨u, v, k, e, a, b, x, y, z⟩ := h
  exact ⟨u, v, k, e, a, b, x, y, by omega⟩
theorem Ur.at {c : Nat} {p : Addr} {H : Hp} (h : Ur c H p) : ∃ o, H p = some o := by
  obtain ⟨_, _, _, e, _⟩ := h
  exact ⟨_, e⟩
theorem Ur.free {c : Nat} {p q : Addr} {H H' : Hp} (h : Ur c H' p) (b : But p H H') (e : H' q = none) : H q = none := by
  cases x : H q with
  | none => rfl
  | some o =>
    have y := b q o (h.ne e) x
    rw [e] at y
    cases y
theorem Ur.kt {c : Nat} {p : Addr} {H H' : Hp} (u : Ur c H p) (b : But p H H') : Kt H H' := by
  obtain ⟨x, y, z, e, _⟩ := u
  exact Kt.but b e
def spPot (K : PySem.W.Frag) : Sp := fun vs H Q _ => ∃ (a : Addr) (ns : List Int) (k : Int), vs = [.ref a, .int k] ∧ SqL K H a (ns.map V.int) ∧ 0 ≤ k ∧ k ≤ 1000 ∧
  ∀ H' p, Same H H' → H p = none → Ur 0 H' p → Q (.ref p) H'
def spTk : Sp := fun vs H Q _ => ∃ (p : Addr) (n : Int) (c : Nat), vs = [.ref p, .int n] ∧ Ur c H p ∧ c ≤ 1000000000 ∧ 0 < n ∧ n.natAbs < 2 ^ 1000 ∧
  ∀ (d : Int) H', 0 ≤ d → d < n → Ur (c + 1) H' p → But p H H' → Q (.int d) H'
def spO (K : PySem.W.Frag) : Sp := fun vs H Q _ => ∃ (p q : Addr) (xs : List V) (c : Nat), vs = [.ref p, .ref q] ∧ Ur c H p ∧ c ≤ 1000000000 ∧ q ≠ p ∧ SqL K H q xs ∧ xs ≠ [] ∧ xs.length ≤ 1000 ∧
  ∀ x H', x ∈ xs → Ur (c + 1) H' p → But p H H' → Q x H'
theorem big_lt {n : Int} (h0 : 0 ≤ n) (h : n ≤ 10 ^ 40) : n.natAbs < 2 ^ 1000 := by
  have z : (10 ^ 40 : Nat) < 2 ^ 1000 := by decide +kernel
  omega
theorem ind_nn {z : Int} (h : 0 ≤ z) (b : Bool) : 0 ≤ z * (if b then 1 else 0) := by
  cases b with
  | true => show 0 ≤ z * 1; omega
  | false => show 0 ≤ z * 0; omega
/-- a block, with a stronger word for what it asks -/
theorem PSs.weak {X : Cx} {st : List Stmt} {t t' : TS} (h : PSs X st t) (i : ∀ D σ H, t' D σ H → t D σ H) : PSs X st t' := ⟨fun pins s σ H D I hw => h.run pins s σ H D I (i D σ H hw)⟩
end Lj
set_option Elab.async false
set_option linter.all false
set_option maxRecDepth 100000
set_option maxHeartbeats 1000000
namespace Lj
open PySem PySem.Spec PyProof.Rows L2
/-! ### zip of any two things that can be walked: each a feed -/
/-- an iterator at i with n things to give, as long as its source stands -/
structure Feed (i : Addr) (n : Nat) (f : Nat → Value → Prop) (St : Nat → Heap → Prop) (Src : Heap → Prop) : Prop where
  give : ∀ {prog : Program} {w : World} {A : Around} {E : Value → Shared → Prop} {s : Shared} {k : Nat} {Q : Value → Shared → Prop}, k < n → St k s.heap → Src s.heap → (∀ x h' tk, f k x → St (k + 1) h' → Heap.SameBut i s.heap h' → Q x { s with heap := h', toks := tk }) →
    wpAny (model prog w) A (Builtin.SmallTypes.nextOf (.ref i)) Q E s
  over : ∀ {prog : Program} {w : World} {A : Around} {E : Value → Shared → Prop} {s : Shared} {Q : Value → Shared → Prop}, A.handled = none → St n s.heap → Src s.heap → (∀ h' e tk, Heap.ExtBut i s.heap h' → (∃ o, h'.get? e = some o ∧ o.cls = .type "StopIteration") → E (.ref e) { s with heap := h', toks := tk }) →
    wpAny (model prog w) A (Builtin.SmallTypes.nextOf (.ref i)) Q E s
  stay : ∀ {k : Nat} {h h' : Heap}, St k h → (∀ o, h.get? i = some o → h'.get? i = some o) → St k h'
  obj : ∀ {k : Nat} {h : Heap}, St k h → ∃ o vs, h.get? i = some o ∧ o.data = .fields vs
theorem feed_list {i l : Addr} {its : Array Value} : Feed i its.size (fun k x => its[k]? = some x) (fun k h => h.IsListIter i l k) (fun h => h.IsList l its) where
  give := fun {_ _ _ _ s k _} hk st src q => wpAny_nextOf_list_item st src (Array.getElem?_eq_getElem hk) fun h' a b => q _ h' s.toks (Array.getElem?_eq_getElem hk) a b
  over := fun {_ _ _ _ s _} hh st src q => wpAny_nextOf_list_end hh st src (by simp) fun h' e a b => q h' e s.toks a b
  stay := fun ⟨o, e, r⟩ k => ⟨o, k o e, r⟩
  obj := fun ⟨o, e, _, d⟩ => ⟨o, _, e, d⟩
/-- the five objects of a zip are apart -/
structure Five (z I O a b : Addr) : Prop where
  Iz : I ≠ z
  Oz : O ≠ z
  az : a ≠ z
  bz : b ≠ z
  IO : I ≠ O
  Ia : I ≠ a
  Ib : I ≠ b
  Oa : O ≠ a
  Ob : O ≠ b
  ab : a ≠ b
/-- what a step of the zip leaves alone -/
def Beside (z O a b : Addr) (h h' : Heap) : Prop := ∀ c o, c ≠ z → c ≠ O → c ≠ a → c ≠ b → h.get? c = some o → h'.get? c = some o
section
variable {prog : Program} {w : World} {A : Around} {E : Value → Shared → Prop} {s : Shared} {z I O a b : Addr} {m n k : Nat} {f g : Nat → Value → Prop} {S1 S2 : Nat → Heap → Prop} {R1 R2 : Heap → Prop} {p q : Value}
theorem zf_give {Q : Value → Shared → Prop} (D : Five z I O a b) (F1 : Feed a m f S1 R1) (F2 : Feed b n g S2 R2) (r1 : ∀ h h', R1 h → Beside z O a b h h' → R1 h') (r2 : ∀ h h', R2 h → Beside z O a b h h' → R2 h')
    (zz : IsZip s.heap z I O .none) (zI : IsPair s.heap I (.ref a) (.ref b)) (zO : IsPair s.heap O p q) (s1 : S1 k s.heap) (s2 : S2 k s.heap) (q1 : R1 s.heap) (q2 : R2 s.heap) (km : k < m) (kn : k < n)
    (hQ : ∀ x y h' tk, f k x → g k y → IsZip h' z I O (rawInt s.heap.objs.size) → IsPair h' O x y → S1 (k + 1) h' → S2 (k + 1) h' → IsPair h' s.heap.objs.size x y → h'.objs.size = s.heap.objs.size + 1 → Beside z O a b s.heap h' → Q (.ref s.heap.objs.size) { s with heap := h', toks := tk }) :
    wpAny (model prog w) A (Builtin.«zip.__next__» ⟨[.ref z], []⟩) (fun fin s' => ∃ v, fin = .done (.ret v) ∧ Q v s') E s := by
  show wpAny _ _ (field (.ref z) 2 >>= _) _ _ _; refine wpAny_bind (wpAny_field zz rfl (x := .bool false) rfl ?_)
  show wpAny _ _ (field (.ref z) 3 >>= _) _ _ _; refine wpAny_bind (wpAny_field zz rfl (x := .ref I) rfl ?_)
  refine wpAny_bind (wpAny_seqItems zI rfl ?_)
  show wpAny _ _ (Builtin.SmallTypes.ownedTupleIsFree (.ref z) >>= _) _ _ _; refine wpAny_bind ?_
  unfold Builtin.SmallTypes.ownedTupleIsFree; refine wpAny_bind (wpAny_field zz rfl (x := .none) rfl (wpAny_pure ?_))
  simp only [if_true]; refine wpAny_bind (wpAny_rule (wpAny_bind (wpAny_field zz rfl (x := .ref O) rfl ?_)))
  refine wpAny_bind (wpAny_setField_rec zz (by simp) fun h1 z1 k1 => ?_)
  replace z1 : IsZip h1 z I O .ellipsis := z1
  refine wpAny_bind ?_
  simp only [List.zipIdx_cons, List.zipIdx_nil, List.forIn_cons, List.forIn_nil]; refine wpAny_bind (wpAny_bind (wpAny_onRaise ?_))
  show wpAny _ _ (Builtin.SmallTypes.nextOf (.ref a) >>= _) _ _ _
  have e1 : ∀ c o, c ≠ z → s.heap.get? c = some o → h1.get? c = some o := fun c o n e => k1.extBut _ _ n e
  refine wpAny_bind (F1.give km (F1.stay s1 fun o => e1 a o D.az) (r1 _ _ q1 fun c o n1 _ _ _ => e1 c o n1) fun x h2 t2 fx s12 k2 => wpAny_pure ?_)
  have e2 : ∀ c o, c ≠ a → h1.get? c = some o → h2.get? c = some o := fun c o n e => k2.extBut _ _ n e
  have O2 : IsPair h2 O p q := e2 _ _ D.Oa (e1 _ _ D.Oz zO)
  refine wpAny_bind (wpAny_seqItems O2 rfl (wpAny_bind (wpAny_updateSeq_pair O2 fun h3 O3 k3 => ?_)))
  replace O3 : IsPair h3 O x q := O3
  have e3 : ∀ c o, c ≠ O → h2.get? c = some o → h3.get? c = some o := fun c o n e => k3.extBut _ _ n e
  refine wpAny_bind (wpAny_letGo (wpAny_pure (wpAny_bind (wpAny_bind (wpAny_onRaise ?_)))))
  show wpAny _ _ (Builtin.SmallTypes.nextOf (.ref b) >>= _) _ _ _
  refine wpAny_bind (F2.give kn (F2.stay s2 fun o e => e3 b o D.Ob.symm (e2 b o D.ab.symm (e1 b o D.bz e))) (r2 _ _ q2 fun c o n1 n2 n3 _ e => e3 c o n2 (e2 c o n3 (e1 c o n1 e))) fun y h4 t4 gy s24 k4 => wpAny_pure ?_)
  have e4 : ∀ c o, c ≠ b → h3.get? c = some o → h4.get? c = some o := fun c o n e => k4.extBut _ _ n e
  have O4 : IsPair h4 O x q := e4 _ _ D.Ob O3
  refine wpAny_bind (wpAny_seqItems O4 rfl (wpAny_bind (wpAny_updateSeq_pair O4 fun h5 O5 k5 => ?_)))
  replace O5 : IsPair h5 O x y := O5
  have e5 : ∀ c o, c ≠ O → h4.get? c = some o → h5.get? c = some o := fun c o n e => k5.extBut _ _ n e
  refine wpAny_bind (wpAny_letGo (wpAny_pure (wpAny_pure (wpAny_bind (wpAny_seqItems O5 rfl (wpAny_bind (wpAny_newTuple ?_)))))))
  have sz : h5.objs.size = s.heap.objs.size := by rw [k5.1, k4.1, k3.1, k2.1, k1.1]
  have z5 : IsZip h5 z I O .ellipsis := e5 _ _ D.Oz.symm (e4 _ _ D.bz.symm (e3 _ _ D.Oz.symm (e2 _ _ D.az.symm z1)))
  have b5 : Beside z O a b s.heap h5 := fun c o n1 n2 n3 n4 e => e5 c o n2 (e4 c o n4 (e3 c o n2 (e2 c o n3 (e1 c o n1 e))))
  have s15 : S1 (k + 1) h5 := F1.stay s12 fun o e => e5 a o D.Oa.symm (e4 a o D.ab (e3 a o D.Oa.symm e))
  have s25 : S2 (k + 1) h5 := F2.stay s24 fun o e => e5 b o D.Ob.symm e
  have zl : z < h5.objs.size := Heap.lt_size z5
  show wpAny _ _ (Builtin.SmallTypes.ownedTupleHandOut (.ref z) (.ref h5.objs.size) >>= _) _ _ _
  refine wpAny_bind ?_; unfold Builtin.SmallTypes.ownedTupleHandOut
  refine wpAny_bind (wpAny_setField_rec (show IsZip (h5.push { cls := .type "tuple", data := .seq #[x, y] }) z I O .ellipsis from Heap.get?_push_of_some _ z5) (by simp) fun h7 z7 k7 => ?_)
  replace z7 : IsZip h7 z I O (rawInt h5.objs.size) := z7
  refine wpAny_setField_rec z7 (by simp) fun h8 z8 k8 => ?_
  replace z8 : IsZip h8 z I O (rawInt h5.objs.size) := z8
  have e8 : ∀ c o, c ≠ z → h5.get? c = some o → h8.get? c = some o := fun c o n e => k8.extBut _ _ n (k7.extBut _ _ n (Heap.get?_push_of_some _ e))
  have T8 : IsPair h8 h5.objs.size x y := k8.extBut _ _ (Nat.ne_of_gt zl) (k7.extBut _ _ (Nat.ne_of_gt zl) (Heap.get?_push_size _ rfl))
  have y8 : h8.objs.size = h5.objs.size + 1 := by rw [k8.1, k7.1, Heap.size_push]
  rw [sz] at z8 T8 y8
  refine wpAny_pure ⟨_, rfl, ?_⟩
  show Q (.ref h5.objs.size) _
  rw [sz]
  exact hQ x y h8 t4 fx gy z8 (e8 _ _ D.Oz O5) (F1.stay s15 fun o => e8 a o D.az) (F2.stay s25 fun o => e8 b o D.bz) T8 y8 fun c o n1 n2 n3 n4 e => e8 c o n1 (b5 c o n1 n2 n3 n4 e)
theorem zf_over {Q : Fin → Shared → Prop} (hh : A.handled = none) (D : Five z I O a b) (F1 : Feed a m f S1 R1) (F2 : Feed b n g S2 R2) (r1 : ∀ h h', R1 h → Beside z O a b h h' → R1 h') (r2 : ∀ h h', R2 h → Beside z O a b h h' → R2 h')
    (zz : IsZip s.heap z I O .none) (zI : IsPair s.heap I (.ref a) (.ref b)) (zO : IsPair s.heap O p q) (s1 : S1 k s.heap) (s2 : S2 k s.heap) (q1 : R1 s.heap) (q2 : R2 s.heap) (he : k = m ∨ (k < m ∧ k = n))
    (hE : ∀ h' e tk, Beside z O a b s.heap h' → (∃ o, h'.get? e = some o ∧ o.cls = .type "StopIteration") → E (.ref e) { s with heap := h', toks := tk }) :
    wpAny (model prog w) A (Builtin.«zip.__next__» ⟨[.ref z], []⟩) Q E s := by
  show wpAny _ _ (field (.ref z) 2 >>= _) _ _ _; refine wpAny_bind (wpAny_field zz rfl (x := .bool false) rfl ?_)
  show wpAny _ _ (field (.ref z) 3 >>= _) _ _ _; refine wpAny_bind (wpAny_field zz rfl (x := .ref I) rfl ?_)
  refine wpAny_bind (wpAny_seqItems zI rfl ?_)
  show wpAny _ _ (Builtin.SmallTypes.ownedTupleIsFree (.ref z) >>= _) _ _ _; refine wpAny_bind ?_
  unfold Builtin.SmallTypes.ownedTupleIsFree; refine wpAny_bind (wpAny_field zz rfl (x := .none) rfl (wpAny_pure ?_))
  simp only [if_true]; refine wpAny_bind (wpAny_rule (wpAny_bind (wpAny_field zz rfl (x := .ref O) rfl ?_)))
  refine wpAny_bind (wpAny_setField_rec zz (by simp) fun h1 z1 k1 => ?_)
  replace z1 : IsZip h1 z I O .ellipsis := z1
  refine wpAny_bind ?_
  simp only [List.zipIdx_cons, List.zipIdx_nil, List.forIn_cons, List.forIn_nil]; refine wpAny_bind (wpAny_bind (wpAny_onRaise ?_))
  show wpAny _ _ (Builtin.SmallTypes.nextOf (.ref a) >>= _) _ _ _
  have e1 : ∀ c o, c ≠ z → s.heap.get? c = some o → h1.get? c = some o := fun c o n e => k1.extBut _ _ n e
  have s11 := F1.stay s1 fun o => e1 a o D.az
  have q11 := r1 _ _ q1 fun c o n1 _ _ _ => e1 c o n1
  have fin : ∀ {h2 : Heap} {t2 : Nat} {e : Addr}, IsZip h2 z I O .ellipsis → Beside z O a b s.heap h2 → (∃ o, h2.get? e = some o ∧ o.cls = .type "StopIteration") → wpAny (model prog w) A (setField (.ref z) 0 .none) (fun _ s' => E (.ref e) s') E { s with heap := h2, toks := t2 } := fun {h2 t2 e} z2 b2 ⟨oe, g, c⟩ => by
    have ne : e ≠ z := fun y => by subst y; rw [z2] at g; cases g; simp at c
    exact wpAny_setField_rec z2 (by simp) fun h3 _ k3 => hE h3 e t2 (fun c o n1 n2 n3 n4 y => k3.extBut _ _ n1 (b2 c o n1 n2 n3 n4 y)) ⟨oe, k3.extBut _ _ ne g, c⟩
  rcases he with rfl | ⟨km, rfl⟩
  · refine wpAny_bind (F1.over hh s11 q11 fun h2 e t2 k2 ex => ?_)
    exact fin (k2 _ _ D.az.symm z1) (fun c o n1 _ n3 _ y => k2 _ _ n3 (e1 c o n1 y)) ex
  · refine wpAny_bind (F1.give km s11 q11 fun x h2 t2 fx s12 k2 => wpAny_pure ?_)
    have e2 : ∀ c o, c ≠ a → h1.get? c = some o → h2.get? c = some o := fun c o n e => k2.extBut _ _ n e
    have O2 : IsPair h2 O p q := e2 _ _ D.Oa (e1 _ _ D.Oz zO)
    refine wpAny_bind (wpAny_seqItems O2 rfl (wpAny_bind (wpAny_updateSeq_pair O2 fun h3 O3 k3 => ?_)))
    have e3 : ∀ c o, c ≠ O → h2.get? c = some o → h3.get? c = some o := fun c o n e => k3.extBut _ _ n e
    refine wpAny_bind (wpAny_letGo (wpAny_pure (wpAny_bind (wpAny_bind (wpAny_onRaise ?_)))))
    show wpAny _ _ (Builtin.SmallTypes.nextOf (.ref b) >>= _) _ _ _
    refine wpAny_bind (F2.over hh (F2.stay s2 fun o e => e3 b o D.Ob.symm (e2 b o D.ab.symm (e1 b o D.bz e))) (r2 _ _ q2 fun c o n1 n2 n3 _ e => e3 c o n2 (e2 c o n3 (e1 c o n1 e))) fun h4 e t4 k4 ex => ?_)
    exact fin (k4 _ _ D.bz.symm (e3 _ _ D.Oz.symm (e2 _ _ D.az.symm z1))) (fun c o n1 n2 n3 n4 y => k4 _ _ n4 (e3 c o n2 (e2 c o n3 (e1 c o n1 y)))) ex
theorem zf_next {Q : Option Value → Shared → Prop} (D : Five z I O a b) (F1 : Feed a m f S1 R1) (F2 : Feed b n g S2 R2) (r1 : ∀ h h', R1 h → Beside z O a b h h' → R1 h') (r2 : ∀ h h', R2 h → Beside z O a b h h' → R2 h')
    (zz : IsZip s.heap z I O .none) (zI : IsPair s.heap I (.ref a) (.ref b)) (zO : IsPair s.heap O p q) (s1 : S1 k s.heap) (s2 : S2 k s.heap) (q1 : R1 s.heap) (q2 : R2 s.heap) (km : k < m) (kn : k < n)
    (hQ : ∀ x y h' tk, f k x → g k y → IsZip h' z I O (rawInt s.heap.objs.size) → IsPair h' O x y → S1 (k + 1) h' → S2 (k + 1) h' → IsPair h' s.heap.objs.size x y → h'.objs.size = s.heap.objs.size + 1 → Beside z O a b s.heap h' → Q (some (.ref s.heap.objs.size)) { s with heap := h', toks := tk }) :
    wpAny (model prog w) A (pyNext (.ref z)) Q E s := by
  have ty : s.TypeIs (.ref z) "zip" := ⟨_, zz, rfl⟩
  unfold pyNext; refine wpAny_bind (wpAny_attempt (wpAny_callSpecial?_slot (name := Str.ofString "__next__") ty F.slot_zip_next (wpAny_call_entry F.slot_zip_next ty F.entry_zip_next (zf_give D F1 F2 r1 r2 zz zI zO s1 s2 q1 q2 km kn fun x y h' tk b1 b2 b3 b4 b5 b6 b7 b8 b9 => ?_) (F.args_zip_next_1 _))))
  exact wpAny_pure (hQ x y h' tk b1 b2 b3 b4 b5 b6 b7 b8 b9)
theorem zf_done {Q : Option Value → Shared → Prop} (hh : A.handled = none) (D : Five z I O a b) (F1 : Feed a m f S1 R1) (F2 : Feed b n g S2 R2) (r1 : ∀ h h', R1 h → Beside z O a b h h' → R1 h') (r2 : ∀ h h', R2 h → Beside z O a b h h' → R2 h')
    (zz : IsZip s.heap z I O .none) (zI : IsPair s.heap I (.ref a) (.ref b)) (zO : IsPair s.heap O p q) (s1 : S1 k s.heap) (s2 : S2 k s.heap) (q1 : R1 s.heap) (q2 : R2 s.heap) (he : k = m ∨ (k < m ∧ k = n))
    (hQ : ∀ h' tk, Beside z O a b s.heap h' → Q none { s with heap := h', toks := tk }) : wpAny (model prog w) A (pyNext (.ref z)) Q E s := by
  have ty : s.TypeIs (.ref z) "zip" := ⟨_, zz, rfl⟩
  unfold pyNext; refine wpAny_bind (wpAny_attempt (wpAny_callSpecial?_slot (name := Str.ofString "__next__") ty F.slot_zip_next (wpAny_call_entry F.slot_zip_next ty F.entry_zip_next (zf_over hh D F1 F2 r1 r2 zz zI zO s1 s2 q1 q2 he fun h' e tk k ⟨o, g, c⟩ => ?_) (F.args_zip_next_1 _))))
  exact wpAny_bind (wpAny_isInstance (T := "StopIteration") (b := true) ⟨o, g, c⟩ isSubtype_stop (wpAny_pure (hQ _ _ k)))
end
end Lj
set_option Elab.async false
set_option linter.all false
set_option maxRecDepth 100000
set_option maxHeartbeats 1000000
namespace Lj
open PySem PySem.Spec PyProof.Rows L2
/-- something that can be walked: St tells its iterator, G that it stands, ls where, xs what it gives -/
structure Sr (P : Program) (w : World) (K : PySem.W.Frag) (St : Addr → Nat → Heap → Prop) (G : Hp → Prop) (ls : List Addr) (xs : List V) : Prop where
  feed : ∀ {X : Cx} {pins : List (Addr × Obj)} {σ : L2.St} {H : Hp} {s : Shared}, X.prog = P → X.w = w → X.K = K → Inv X pins σ H s → G H → ∀ i : Addr, ∃ (f : Nat → Value → Prop) (Src : Heap → Prop), Feed i xs.length f (St i) Src ∧ Src s.heap ∧
    (∀ h h', Src h → (∀ l ∈ ls, ∀ o, h.get? l = some o → h'.get? l = some o) → Src h') ∧ ∀ k u, f k u → ∃ x, xs[k]? = some x ∧ RelV x u
  stay : ∀ {i : Addr} {k : Nat} {h h' : Heap}, St i k h → (∀ o, h.get? i = some o → h'.get? i = some o) → St i k h'
  obj : ∀ {i : Addr} {k : Nat} {h : Heap}, St i k h → ∃ o vs, h.get? i = some o ∧ o.data = .fields vs
theorem sr_list {P : Program} {w : World} {K : PySem.W.Frag} {a : Addr} {xs : List V} : Sr P w K (fun i k h => h.IsListIter i a k) (fun H => SqL K H a xs) [a] xs where
  feed := fun {X pins σ H s} e1 e2 e3 I g i => by
    subst e3
    obtain ⟨its, rv, pl, _⟩ := I.list g
    refine ⟨fun k x => its.toArray[k]? = some x, fun h => h.IsList a its.toArray, ?_, pl.isList, fun h h' q k => ?_, fun k u e => ?_⟩
    · have z := feed_list (i := i) (l := a) (its := its.toArray)
      rw [List.size_toArray, ← rv.length] at z
      exact z
    · obtain ⟨o, ho, r⟩ := q
      exact ⟨o, k a List.mem_cons_self o ho, r⟩
    · have e : its.toArray[k]? = some u := e
      rw [List.getElem?_toArray] at e
      have hk : k < xs.length := by rw [rv.length]; exact (List.getElem?_eq_some_iff.mp e).1
      obtain ⟨u', hu, ru⟩ := rv.get (List.getElem?_eq_getElem hk)
      rw [e] at hu
      cases hu
      exact ⟨_, List.getElem?_eq_getElem hk, ru⟩
  stay := fun ⟨o, e, r⟩ k => ⟨o, k o e, r⟩
  obj := fun ⟨o, e, _, d⟩ => ⟨o, _, e, d⟩
/-- pairs of the things of two sources, as long as both stand -/
def ItF (n : Nat) (G : Hp → Prop) (xs ys : List V) : It :=
  ⟨fun i H => i < n ∧ G H, fun i H v H' => ∃ T x y, v = .ref T ∧ H T = none ∧ H' = upd H T (.tup [x, y]) ∧ xs[i]? = some x ∧ ys[i]? = some y, fun i H => i = n ∧ G H⟩
theorem walk_F {n : Nat} {G : Hp → Prop} {xs ys : List V} : Walk (ItF n G xs ys) n G (YPair (fun i => xs[i]?) (fun i => ys[i]?)) :=
  ⟨fun i _ hi q => ⟨hi, q⟩, fun _ q => ⟨rfl, q⟩, fun i H v H' _ q y => y⟩
def zipTn (S1 S2 : Addr → Nat → Heap → Prop) (z I O a b : Addr) : Nat → Heap → Prop := fun i h => IsZip h z I O .none ∧ IsPair h I (.ref a) (.ref b) ∧ (∃ x y, IsPair h O x y) ∧ S1 a i h ∧ S2 b i h
theorem turn_F {P : Program} {w : World} {K : PySem.W.Frag} {elts : List Expr} {kk : Nat} {tpos : Pos} {z I O a b : Addr} {S1 S2 : Addr → Nat → Heap → Prop} {G1 G2 : Hp → Prop} {l1 l2 : List Addr} {xs ys : List V} (D : Five z I O a b) (F1 : Sr P w K S1 G1 l1 xs) (F2 : Sr P w K S2 G2 l2 ys)
    (n1 : ∀ l ∈ l1, l ≠ z ∧ l ≠ O ∧ l ≠ a ∧ l ≠ b) (n2 : ∀ l ∈ l2, l ≠ z ∧ l ≠ O ∧ l ≠ a ∧ l ≠ b) : Turn P w K (.Tuple elts kk tpos) (ItF (min xs.length ys.length) (fun H => G1 H ∧ G2 H) xs ys) [z, I, O, a, b] z (zipTn S1 S2 z I O a b) where
  mem := List.mem_cons_self
  obj := fun i h st c hc => by
    obtain ⟨q1, q2, ⟨x, y, q3⟩, q4, q5⟩ := st
    obtain ⟨o4, v4, e4, d4⟩ := F1.obj q4
    obtain ⟨o5, v5, e5, d5⟩ := F2.obj q5
    simp only [List.mem_cons, List.not_mem_nil, or_false] at hc
    rcases hc with rfl | rfl | rfl | rfl | rfl
    · exact ⟨_, q1, fun v e => nomatch e⟩
    · exact ⟨_, q2, fun v e => nomatch e⟩
    · exact ⟨_, q3, fun v e => nomatch e⟩
    · exact ⟨o4, e4, fun v e => by rw [d4] at e; cases e⟩
    · exact ⟨o5, e5, fun v e => by rw [d5] at e; cases e⟩
  keep := fun i h h' st k => by
    obtain ⟨q1, q2, ⟨x, y, q3⟩, q4, q5⟩ := st
    exact ⟨k z (by simp) _ q1, k I (by simp) _ q2, ⟨x, y, k O (by simp) _ q3⟩, F1.stay q4 fun o e => k a (by simp) o e, F2.stay q5 fun o e => k b (by simp) o e⟩
  item := by
    intro X hP hw hK hc i pins s σ H E Iv hf st hg
    obtain ⟨q1, q2, ⟨x0, y0, q3⟩, q4, q5⟩ := st
    obtain ⟨hi, g1, g2⟩ := hg
    obtain ⟨f, S, fd, sr, ss, fr⟩ := F1.feed hP hw hK Iv g1 a
    obtain ⟨g, S', fd', sr', ss', fr'⟩ := F2.feed hP hw hK Iv g2 b
    subst hP hw hK
    have zl : z < s.heap.objs.size := Heap.lt_size q1
    have st1 : ∀ h h', S h → Beside z O a b h h' → S h' := fun h h' q k => ss h h' q fun l m o e => k l o (n1 l m).1 (n1 l m).2.1 (n1 l m).2.2.1 (n1 l m).2.2.2 e
    have st2 : ∀ h h', S' h → Beside z O a b h h' → S' h' := fun h h' q k => ss' h h' q fun l m o e => k l o (n2 l m).1 (n2 l m).2.1 (n2 l m).2.2.1 (n2 l m).2.2.2 e
    refine zf_next D fd fd' st1 st2 q1 q2 q3 q4 q5 sr sr' (by omega) (by omega) fun u v h' tk fu gv z' O' s1' s2' T sz bes => ?_
    obtain ⟨x, hx, ru⟩ := fr i u fu
    obtain ⟨y, hy, rv⟩ := fr' i v gv
    refine ⟨_, rfl, wpAny_letOwnedTupleGo_zip (s := { s with heap := h', toks := tk }) z' fun h2 z2 sb => ?_⟩
    have T2 : h2.get? s.heap.objs.size = some { cls := .type "tuple", data := .seq #[u, v] } := (sb.2 _ (Nat.ne_of_gt zl)).trans T
    have new : ObjOk X.prog X.w (upd H s.heap.objs.size (.tup [x, y])) h2 s.heap.objs.size (.tup [x, y]) := ⟨by show 2 ≤ sizeLine; decide, [u, v], .cons ru (.cons rv .nil), ⟨_, T2, rfl, _, rfl⟩⟩
    have I1 : Inv X pins σ (upd H s.heap.objs.size (.tup [x, y])) { s with heap := h2, toks := tk } := Iv.turnedNew (t' := tk) (ch := [z, I, O, a, b]) (fun c o hb e => by
      simp only [List.mem_cons, List.not_mem_nil, or_false, not_or] at hb
      exact (sb.2 c hb.1).trans (bes c o hb.1 hb.2.2.1 hb.2.2.2.1 hb.2.2.2.2 e)) hf (Nat.le_refl _) new
    refine ⟨.ref s.heap.objs.size, _, I1, rfl, ⟨_, x, y, rfl, Iv.hok.fresh (Nat.le_refl _), rfl, hx, hy⟩, ⟨z2, ?_, ⟨u, v, ?_⟩, ?_, ?_⟩, fun c hcm => ?_⟩
    · exact (sb.2 _ D.Iz).trans (bes _ _ D.Iz D.IO D.Ia D.Ib q2)
    · exact (sb.2 _ D.Oz).trans O'
    · exact F1.stay s1' fun o e => (sb.2 _ D.az).trans e
    · exact F2.stay s2' fun o e => (sb.2 _ D.bz).trans e
    · have lt : c < s.heap.objs.size := by
        obtain ⟨o4, _, e4, _⟩ := F1.obj q4
        obtain ⟨o5, _, e5, _⟩ := F2.obj q5
        simp only [List.mem_cons, List.not_mem_nil, or_false] at hcm
        rcases hcm with rfl | rfl | rfl | rfl | rfl
        · exact zl
        · exact Heap.lt_size q2
        · exact Heap.lt_size q3
        · exact Heap.lt_size e4
        · exact Heap.lt_size e5
      rw [upd_ne (Nat.ne_of_lt lt)]
      exact (hf c hcm).1
  done := by
    intro X hP hw hK hc i pins s σ H E Iv hf st hg
    obtain ⟨q1, q2, ⟨x0, y0, q3⟩, q4, q5⟩ := st
    obtain ⟨hi, g1, g2⟩ := hg
    obtain ⟨f, S, fd, sr, ss, fr⟩ := F1.feed hP hw hK Iv g1 a
    obtain ⟨g, S', fd', sr', ss', fr'⟩ := F2.feed hP hw hK Iv g2 b
    subst hP hw hK
    have st1 : ∀ h h', S h → Beside z O a b h h' → S h' := fun h h' q k => ss h h' q fun l m o e => k l o (n1 l m).1 (n1 l m).2.1 (n1 l m).2.2.1 (n1 l m).2.2.2 e
    have st2 : ∀ h h', S' h → Beside z O a b h h' → S' h' := fun h h' q k => ss' h h' q fun l m o e => k l o (n2 l m).1 (n2 l m).2.1 (n2 l m).2.2.1 (n2 l m).2.2.2 e
    refine zf_done (Iv.ok.hd hc) D fd fd' st1 st2 q1 q2 q3 q4 q5 sr sr' (by omega) fun h' tk bes => ⟨rfl, Iv.turnedL (t' := tk) (ch := [z, I, O, a, b]) (fun c o hb e => ?_) hf⟩
    simp only [List.mem_cons, List.not_mem_nil, or_false, not_or] at hb
    exact bes c o hb.1 hb.2.2.1 hb.2.2.2.1 hb.2.2.2.2 e
  self := fun A i s Q E st h => wpAny_pyIter_zip st.1 h
/-! ### zip(list, tuple): its making -/
abbrev zh (h : Heap) (p q : Obj) (a b : Nat) : Heap := (((((h.push p).push q).push { cls := .type "tuple", data := .seq #[.ref a, .ref b] }).push { cls := .type "tuple", data := .seq #[.none, .none] })).push { cls := .type "zip", data := .fields #[.none, .bool false, .bool false, .ref (a + 2), .ref (a + 3)] }
abbrev oLi (l : Addr) : Obj := { cls := .type "list_iterator", data := .fields #[.ref l, .int 0 0] }
theorem five_new (n : Nat) : Five (n + 4) (n + 2) (n + 3) n (n + 1) := by
  have z : ∀ i j : Nat, i ≠ j → n + i ≠ n + j := fun i j h e => h (Nat.add_left_cancel e)
  exact ⟨z 2 4 (by decide), z 3 4 (by decide), z 0 4 (by decide), z 1 4 (by decide), z 2 3 (by decide), z 2 0 (by decide), z 2 1 (by decide), z 3 0 (by decide), z 3 1 (by decide), z 0 1 (by decide)⟩
theorem zh_sz (h : Heap) (p q : Obj) (hp : p.isFreed = false := by rfl) (hq : q.isFreed = false := by rfl) : (zh h p q h.objs.size (h.objs.size + 1)).get? h.objs.size = some p ∧ (zh h p q h.objs.size (h.objs.size + 1)).get? (h.objs.size + 1) = some q ∧
    IsPair (zh h p q h.objs.size (h.objs.size + 1)) (h.objs.size + 2) (.ref h.objs.size) (.ref (h.objs.size + 1)) ∧ IsPair (zh h p q h.objs.size (h.objs.size + 1)) (h.objs.size + 3) .none .none ∧ IsZip (zh h p q h.objs.size (h.objs.size + 1)) (h.objs.size + 4) (h.objs.size + 2) (h.objs.size + 3) .none := by
  have z1 : (h.push p).objs.size = h.objs.size + 1 := Heap.size_push ..
  have z2 : ((h.push p).push q).objs.size = h.objs.size + 2 := by rw [Heap.size_push, z1]
  have z3 : (((h.push p).push q).push { cls := .type "tuple", data := .seq #[.ref h.objs.size, .ref (h.objs.size + 1)] }).objs.size = h.objs.size + 3 := by rw [Heap.size_push, z2]
  have z4 : ((((h.push p).push q).push { cls := .type "tuple", data := .seq #[.ref h.objs.size, .ref (h.objs.size + 1)] }).push { cls := .type "tuple", data := .seq #[.none, .none] }).objs.size = h.objs.size + 4 := by rw [Heap.size_push, z3]
  have up : ∀ {h : Heap} {c : Addr} {o : Obj} (x : Obj), h.get? c = some o → (h.push x).get? c = some o := fun x e => Heap.get?_push_of_some x e
  refine ⟨up _ (up _ (up _ (up _ (Heap.get?_push_size h hp)))), ?_, ?_, ?_, ?_⟩
  · have e := Heap.get?_push_size (h.push p) hq
    rw [z1] at e
    exact up _ (up _ (up _ e))
  · have e := Heap.get?_push_size ((h.push p).push q) (o := { cls := .type "tuple", data := .seq #[.ref h.objs.size, .ref (h.objs.size + 1)] }) rfl
    rw [z2] at e
    exact up _ (up _ e)
  · have e := Heap.get?_push_size (((h.push p).push q).push { cls := .type "tuple", data := .seq #[.ref h.objs.size, .ref (h.objs.size + 1)] }) (o := { cls := .type "tuple", data := .seq #[.none, .none] }) rfl
    rw [z3] at e
    exact up _ e
  · have e := Heap.get?_push_size ((((h.push p).push q).push { cls := .type "tuple", data := .seq #[.ref h.objs.size, .ref (h.objs.size + 1)] }).push { cls := .type "tuple", data := .seq #[.none, .none] }) (o := { cls := .type "zip", data := .fields #[.none, .bool false, .bool false, .ref (h.objs.size + 2), .ref (h.objs.size + 3)] }) rfl
    rw [z4] at e
    exact e
end Lj
set_option Elab.async false
set_option linter.all false
set_option maxRecDepth 100000
namespace Lj
open PySem PySem.Spec PyProof.Rows L2
/-! ### the last step that assigns a register -/
/-- the registers that an instruction assigns -/
def asgs (w : Str) (as : List Int) : List Int := if w = "swap" then as else if w = "write" then [] else as.take 1
def Tr.asg (x : Int) : Tr → Bool
  | .op w as => decide (x ∈ asgs w as)
  | .loop _ _ => false
def la (x : Int) : List Tr → Option Nat
  | [] => none
  | t :: r => match la x r with
    | some j => some (j + 1)
    | none => if t.asg x then some 0 else none
/-- a prefix of a repeated list -/
theorem take_flat {α : Type} (xs : List α) (n k r : Nat) (hk : k < n) (hr : r ≤ xs.length) : ((List.replicate n xs).flatten).take (k * xs.length + r) = (List.replicate k xs).flatten ++ xs.take r := by
  obtain ⟨m, rfl⟩ : ∃ m, n = k + (m + 1) := ⟨n - k - 1, by omega⟩
  rw [← List.replicate_append_replicate, List.flatten_append, ← flat_len k xs, List.take_length_add_append, List.replicate_succ, List.flatten_cons, List.take_append_of_le_length hr]
mutual
/-- each instruction but loops has arguments -/
def Tr.hasArgs : Tr → Prop
  | .op _ as => as ≠ []
  | .loop _ b => haveArgs b
def haveArgs : List Tr → Prop
  | [] => True
  | t :: r => t.hasArgs ∧ haveArgs r
end
theorem GoodOp.args {p n : Int} {w : Str} {as : List Int} (h : GoodOp p n w as) : as ≠ [] := by
  rcases h with ⟨_, _, _, rfl, _⟩ | ⟨_, _, rfl, _⟩ | ⟨_, _, _, rfl, _⟩ | ⟨_, _, _, _, rfl, _⟩ <;> intro z <;> cases z
mutual
theorem Tr.made_args {G : Str → List Int → Prop} {R : Int → Prop} (hG : ∀ w as, G w as → as ≠ []) : ∀ (t : Tr) (l d : Nat), t.made G R l d → t.hasArgs
  | .op w as, l, d, h => by
    rw [Tr.made] at h
    rw [Tr.hasArgs]
    exact hG w as h
  | .loop k b, l, 0, h => by rw [Tr.made] at h; exact h.elim
  | .loop k b, l, d + 1, h => by
    rw [Tr.made] at h
    rw [Tr.hasArgs]
    exact mades_args hG b (l / 2) d h.2.2
theorem mades_args {G : Str → List Int → Prop} {R : Int → Prop} (hG : ∀ w as, G w as → as ≠ []) : ∀ (b : List Tr) (l d : Nat), mades G R b l d → haveArgs b
  | [], _, _, _ => by rw [haveArgs]; trivial
  | t :: r, l, d, h => by
    rw [mades] at h
    rw [haveArgs]
    exact ⟨Tr.made_args hG t l d h.1, mades_args hG r l d h.2⟩
end
/-! ### slices of tuples -/
theorem cut_tail (x : V) (xs : List V) : cutV (x :: xs) (some 1) none = xs := by
  unfold cutV
  rw [show HT.sIx (x :: xs).length 0 (some 1) = min 1 (x :: xs).length from HT.sIx_nat _ _ 1, HT.sIx_none, List.length_cons, show min 1 (xs.length + 1) = 1 by omega]
  show (xs.take (xs.length + 1 - 1)) = xs
  rw [Nat.add_sub_cancel]
  exact List.take_length
/-! ### promises -/
end Lj
namespace Lj
open PySem PySem.Spec PyProof.Rows L2
end Lj
set_option Elab.async false
set_option linter.all false
set_option maxRecDepth 100000
namespace Lj
open PySem PySem.Spec PyProof.Rows L2
/-! ### trees shown -/
mutual
def Tr.datT : Tr → PyData
  | .op w as => .tuple (.str w :: as.map .int)
  | .loop k b => .tuple [.str "loop", .int k, .tuple (datTs b)]
def datTs : List Tr → List PyData
  | [] => []
  | t :: r => t.datT :: datTs r
end
mutual
theorem Tr.dp {K : PySem.W.Frag} {H : Hp} : ∀ (t : Tr) (v : V), TrAt K H t v → Dp K H v t.datT
  | .op w as, v, h => by
    rw [TrAt] at h
    obtain ⟨a, rfl, sq⟩ := h
    rw [Tr.datT]
    exact .tup sq (.cons (.str w) (dp_ints as))
  | .loop k b, v, h => by
    rw [TrAt] at h
    obtain ⟨a, c, vs, rfl, sq, sq2, r⟩ := h
    rw [Tr.datT]
    exact .tup sq (.cons (.str _) (.cons (.int k) (.cons (.tup sq2 (trs_dp b vs r)) .nil)))
theorem trs_dp {K : PySem.W.Frag} {H : Hp} : ∀ (b : List Tr) (vs : List V), TrsAt K H b vs → DpAll K H vs (datTs b)
  | [], vs, h => by
    rw [TrsAt] at h
    rw [h, datTs]
    exact .nil
  | t :: r, vs, h => by
    rw [TrsAt] at h
    obtain ⟨v, us, rfl, a, k⟩ := h
    rw [datTs]
    exact .cons (Tr.dp t v a) (trs_dp r us k)
end
def sb : Nat → Nat
  | 0 => 20000
  | d + 1 => 20000 + 8 * (sb d + 2)
theorem sb_ge : ∀ d, 20000 ≤ sb d
  | 0 => Nat.le_refl _
  | d + 1 => by rw [sb]; omega
/-- short arguments -/
def Short (w : Str) (as : List Int) : Prop := w ∈ W7 ∧ as.length ≤ 3 ∧ ∀ a ∈ as, a.natAbs < 2 ^ 1000
theorem W7_shown {w : Str} (h : w ∈ W7) : (PyData.shown (.str w)).length ≤ 20 := by
  have z : (W7.all fun w => decide ((PyData.shown (.str w)).length ≤ 20)) = true := by decide +kernel
  exact of_decide_eq_true (List.all_eq_true.mp z w h)
mutual
theorem Tr.made_show {G : Str → List Int → Prop} {R : Int → Prop} (hG : ∀ w as, G w as → Short w as) (hR : ∀ k, R k → k.natAbs < 2 ^ 1000) : ∀ (t : Tr) (l d : Nat), l ≤ 8 → t.made G R l d →
    t.datT.showable = true ∧ t.datT.hasDict = false ∧ t.datT.depth ≤ 2 * d + 1 ∧ t.datT.shown.length ≤ sb d
  | .op w as, l, d, hl, h => by
    rw [Tr.made] at h
    obtain ⟨h1, h2, h3⟩ := hG w as h
    obtain ⟨a1, a2, a3, a4, a5⟩ := leaf_all (leaf_ints h3)
    rw [Tr.datT]
    refine ⟨by rw [PyData.showable, PyData.showableAll, PyData.showable, a1]; rfl, by rw [PyData.hasDict, PyData.hasDictAll, PyData.hasDict, a2]; rfl, by rw [PyData.depth, PyData.depthAll, PyData.depth, a3]; exact Nat.succ_le_succ (Nat.zero_le _), ?_⟩
    rw [PyData.shown, PyData.shownAll]
    have z := PySem.tupleText_len_le (PyData.shown (.str w) :: PyData.shownAll (as.map PyData.int))
    rw [List.map_cons, List.sum_cons, List.length_cons, a5] at z
    have z2 := W7_shown h1
    have z3 := sb_ge d
    rw [List.length_map] at z a4
    omega
  | .loop k b, l, 0, _, h => by rw [Tr.made] at h; exact h.elim
  | .loop k b, l, d + 1, hl, h => by
    rw [Tr.made] at h
    obtain ⟨b1, b2, b3, b4, b5⟩ := mades_show hG hR b (l / 2) d (by omega) h.2.2
    obtain ⟨i1, i2, i3, i4⟩ := leaf_int (log_of (hR k h.1) (by decide) (by decide))
    have lp : (PyData.shown (.str "loop")).length ≤ 20 := by decide +kernel
    have y := PySem.tupleText_len_le (PyData.shownAll (datTs b))
    have hb := h.2.1
    rw [Tr.datT]
    refine ⟨by rw [PyData.showable, PyData.showableAll, PyData.showable, PyData.showableAll, i1, PyData.showableAll, PyData.showable, b1, PyData.showableAll]; rfl,
      by rw [PyData.hasDict, PyData.hasDictAll, PyData.hasDict, PyData.hasDictAll, i2, PyData.hasDictAll, PyData.hasDict, b2, PyData.hasDictAll]; rfl,
      by rw [PyData.depth, PyData.depthAll, PyData.depth, PyData.depthAll, i3, PyData.depthAll, PyData.depth, PyData.depthAll]; omega, ?_⟩
    rw [PyData.shown, PyData.shownAll, PyData.shownAll, PyData.shownAll, PyData.shownAll]
    have z := PySem.tupleText_len_le [PyData.shown (.str "loop"), PyData.shown (.int k), PyData.shown (.tuple (datTs b))]
    have ez : (PyData.shown (.tuple (datTs b))) = tupleText (PyData.shownAll (datTs b)) := by rw [PyData.shown]
    rw [List.map_cons, List.map_cons, List.map_cons, List.map_nil, List.sum_cons, List.sum_cons, List.sum_cons, List.sum_nil, ez] at z
    rw [show ([PyData.shown (.str "loop"), PyData.shown (.int k), tupleText (PyData.shownAll (datTs b))] : List Str).length = 3 from rfl] at z
    rw [ez, sb]
    have m1 : b.length * sb d ≤ 4 * sb d := Nat.mul_le_mul_right _ (by omega)
    have := sb_ge d
    omega
theorem mades_show {G : Str → List Int → Prop} {R : Int → Prop} (hG : ∀ w as, G w as → Short w as) (hR : ∀ k, R k → k.natAbs < 2 ^ 1000) : ∀ (b : List Tr) (l d : Nat), l ≤ 8 → mades G R b l d →
    PyData.showableAll (datTs b) = true ∧ PyData.hasDictAll (datTs b) = false ∧ PyData.depthAll (datTs b) ≤ 2 * d + 1 ∧ ((PyData.shownAll (datTs b)).map (·.length)).sum ≤ b.length * sb d ∧ (PyData.shownAll (datTs b)).length = b.length
  | [], l, d, _, _ => by
    rw [datTs]
    exact ⟨by rw [PyData.showableAll], by rw [PyData.hasDictAll], by rw [PyData.depthAll]; exact Nat.zero_le _, by rw [PyData.shownAll]; exact Nat.zero_le _, by rw [PyData.shownAll]; rfl⟩
  | t :: r, l, d, hl, h => by
    rw [mades] at h
    obtain ⟨a1, a2, a3, a4⟩ := Tr.made_show hG hR t l d hl h.1
    obtain ⟨b1, b2, b3, b4, b5⟩ := mades_show hG hR r l d hl h.2
    rw [datTs]
    refine ⟨by rw [PyData.showableAll, a1, b1]; rfl, by rw [PyData.hasDictAll, a2, b2]; rfl, by rw [PyData.depthAll]; omega, ?_, by rw [PyData.shownAll, List.length_cons, b5, List.length_cons]⟩
    rw [PyData.shownAll, List.map_cons, List.sum_cons, List.length_cons, Nat.succ_mul]
    omega
end
/-! ### reads among what is executed -/
def rc (E : List Tr) : Int := (((E.map Tr.word).count ("read" : Str) : Nat) : Int)
theorem rc_append (a b : List Tr) : rc (a ++ b) = rc a + rc b := by
  unfold rc
  rw [List.map_append, List.count_append, Int.natCast_add]
end Lj
set_option Elab.async false
set_option linter.all false
set_option maxRecDepth 100000
namespace Lj
open PySem PySem.Spec PyProof.Rows L2
theorem wfs_take {b : List Tr} {n i : Nat} (h : wfs b n) : wfs (b.take i) n := wfs_all fun t m => by
  obtain ⟨j, hj, e⟩ := List.mem_iff_getElem.mp (List.mem_of_mem_take m)
  exact wfs_get (i := j) h (by rw [List.getElem?_eq_getElem hj, e])
theorem flat_takeL {b : List Tr} {i : Nat} {t : Tr} (e : b[i]? = some t) : exs (b.take (i + 1)) = exs (b.take i) ++ t.ex := by
  rw [exs_map, exs_map, map_next e, List.flatten_append, List.flatten_cons, List.flatten_nil, List.append_nil]
theorem lens_nextL {b : List Tr} {i : Nat} {t : Tr} (e : b[i]? = some t) : lens (b.take (i + 1)) = lens (b.take i) + t.len := by rw [lens_map, lens_map, sum_next e]
theorem exs_split (b : List Tr) (i : Nat) : exs b = exs (b.take i) ++ exs (b.drop i) := by rw [exs_map, exs_map, exs_map, ← List.flatten_append, ← List.map_append, List.take_append_drop]
theorem lens_split (b : List Tr) (i : Nat) : lens b = lens (b.take i) + lens (b.drop i) := by rw [lens_map, lens_map, lens_map, ← List.sum_append, ← List.map_append, List.take_append_drop]
theorem wfs_drop {b : List Tr} {n i : Nat} (h : wfs b n) : wfs (b.drop i) n := wfs_all fun t m => by
  obtain ⟨j, hj, e⟩ := List.mem_iff_getElem.mp (List.mem_of_mem_drop m)
  exact wfs_get (i := j) h (by rw [List.getElem?_eq_getElem hj, e])
/-! ### paths -/
/-- ps leads into b to the instruction t, the step st of b is the step r of t -/
inductive PT : List Tr → List Int → Tr → Int → Int → Prop
  | here {b : List Tr} {i : Nat} {t : Tr} {r : Int} (e : b[i]? = some t) : PT b [(i : Int)] t r (lens (b.take i) + r)
  | into {b b' : List Tr} {i : Nat} {k turn r st : Int} {t : Tr} {ps : List Int} (e : b[i]? = some (.loop k b')) (h0 : 0 ≤ turn) (h1 : turn < k) (p : PT b' ps t r st) : PT b ((i : Int) :: turn :: ps) t r (lens (b.take i) + (turn * lens b' + st))
theorem PT.deeper {b : List Tr} {ps : List Int} {t : Tr} {r st : Int} (p : PT b ps t r st) : ∀ {k turn r' : Int} {b' : List Tr} {j : Nat} {t' : Tr}, t = .loop k b' → 0 ≤ turn → turn < k → b'[j]? = some t' → r = turn * lens b' + (lens (b'.take j) + r') → PT b (ps ++ [turn, (j : Int)]) t' r' st := by
  induction p with
  | here e =>
    intro k turn r' b' j t' et h0 h1 ej er
    subst et er
    exact .into e h0 h1 (.here ej)
  | into e h0 h1 p ih =>
    intro k turn r' b' j t' et g0 g1 ej er
    exact .into e h0 h1 (ih et g0 g1 ej er)
theorem get_flat {α : Type} (E : List α) (k t r : Nat) (ht : t < k) (hr : r < E.length) : ((List.replicate k E).flatten)[t * E.length + r]? = E[r]? := by
  have h1 := take_flat E k t (r + 1) ht hr
  have h2 : (((List.replicate k E).flatten).take (t * E.length + (r + 1)))[t * E.length + r]? = ((List.replicate t E).flatten ++ E.take (r + 1))[t * E.length + r]? := by rw [h1]
  rw [List.getElem?_take_of_lt (by omega), List.getElem?_append_right (by rw [flat_len]; omega), flat_len, Nat.add_sub_cancel_left, List.getElem?_take_of_lt (by omega)] at h2
  exact h2
theorem PT.step {b : List Tr} {ps : List Int} {t : Tr} {r st : Int} (p : PT b ps t r st) : ∀ {n : Nat}, wfs b n → 0 ≤ r → r < t.len → 0 ≤ st ∧ st < lens b ∧ (exs b)[st.toNat]? = t.ex[r.toNat]? := by
  induction p with
  | @here b i t r e =>
    intro n h r0 r1
    have el := exs_len (b.take i) n (wfs_take h)
    have tl := Tr.ex_len t n (wfs_get h e)
    have l0 := (lens_bd _ n (wfs_take (i := i) h)).1
    have l2 := lens_nextL e
    have l3 := lens_split b (i + 1)
    have l4 := (lens_bd _ n (wfs_drop (i := i + 1) h)).1
    refine ⟨by omega, by omega, ?_⟩
    rw [exs_split b (i + 1), flat_takeL e, List.append_assoc, List.getElem?_append_right (by omega), List.getElem?_append_left (by omega)]
    congr 1
    omega
  | @into b b' i k turn r st t ps e h0 h1 p ih =>
    intro n h r0 r1
    have wt := wfs_get h e
    cases n with
    | zero => rw [Tr.wf] at wt; exact wt.elim
    | succ n =>
      have wt2 := wt
      rw [Tr.wf] at wt
      obtain ⟨s0, s1, s2⟩ := ih wt.2.2.2 r0 r1
      have el := exs_len (b.take i) _ (wfs_take h)
      have eb := exs_len b' n wt.2.2.2
      have tl := Tr.ex_len (.loop k b') _ wt2
      have l0 := (lens_bd _ _ (wfs_take (i := i) h)).1
      have l2 := lens_nextL e
      have l3 := lens_split b (i + 1)
      have l4 := (lens_bd _ _ (wfs_drop (i := i + 1) h)).1
      rw [Tr.len] at l2 tl
      have m0 : 0 ≤ turn * lens b' := Int.mul_nonneg h0 (by omega)
      have m1 : turn * lens b' + lens b' ≤ k * lens b' := by
        have := Int.mul_le_mul_of_nonneg_right (show turn + 1 ≤ k by omega) (show 0 ≤ lens b' by omega)
        rw [Int.add_mul, Int.one_mul] at this
        exact this
      refine ⟨by omega, by omega, ?_⟩
      rw [exs_split b (i + 1), flat_takeL e, List.append_assoc, List.getElem?_append_right (by omega), List.getElem?_append_left (by omega), ← s2, Tr.ex]
      have ix : (lens (b.take i) + (turn * lens b' + st)).toNat - (exs (b.take i)).length = turn.toNat * (exs b').length + st.toNat := by
        have : ((turn.toNat * (exs b').length : Nat) : Int) = turn * lens b' := by
          rw [Int.natCast_mul, eb]
          congr 1
          omega
        omega
      rw [ix]
      exact get_flat (exs b') k.toNat turn.toNat st.toNat (by omega) (by omega)
/-! ### slices of bodies -/
theorem TrsAt.take {K : PySem.W.Frag} {H : Hp} : ∀ {b : List Tr} {vs : List V} (i : Nat), TrsAt K H b vs → TrsAt K H (b.take i) (vs.take i)
  | b, vs, 0, _ => TrsAt.nil
  | [], vs, i + 1, h => by
    rw [TrsAt] at h
    subst h
    exact TrsAt.nil
  | t :: r, vs, i + 1, h => by
    rw [TrsAt] at h
    obtain ⟨v, us, rfl, a, k⟩ := h
    rw [List.take_succ_cons, List.take_succ_cons, TrsAt]
    exact ⟨v, _, rfl, a, TrsAt.take i k⟩
theorem TrsAt.drop {K : PySem.W.Frag} {H : Hp} : ∀ {b : List Tr} {vs : List V} (i : Nat), TrsAt K H b vs → TrsAt K H (b.drop i) (vs.drop i)
  | b, vs, 0, h => h
  | [], vs, i + 1, h => by
    rw [TrsAt] at h
    subst h
    exact TrsAt.nil
  | t :: r, vs, i + 1, h => by
    rw [TrsAt] at h
    obtain ⟨v, us, rfl, a, k⟩ := h
    exact TrsAt.drop i k
theorem cut_to (xs : List V) (i : Nat) : cutV xs none (some (i : Int)) = xs.take i := by
  unfold cutV
  rw [HT.sIx_none, HT.sIx_nat, List.drop_zero, Nat.sub_zero]
  by_cases h : i ≤ xs.length
  · rw [Nat.min_eq_left h]
  · rw [Nat.min_eq_right (by omega), List.take_length, List.take_of_length_le (by omega)]
theorem cut_whole (xs : List V) (lo hi : Option Int) (h : HT.sIx xs.length 0 lo = 0 ∧ HT.sIx xs.length xs.length hi = xs.length) : cutV xs lo hi = xs := by
  unfold cutV
  rw [h.1, h.2, List.drop_zero, Nat.sub_zero, List.take_length]
/-! ### whether a register is assigned at all -/
mutual
def Tr.nam (x : Int) : Tr → Bool
  | .op w as => decide (x ∈ asgs w as)
  | .loop k b => decide (0 < k) && nams x b
def nams (x : Int) : List Tr → Bool
  | [] => false
  | t :: r => t.nam x || nams x r
end
mutual
theorem Tr.nam_iff (x : Int) : ∀ (t : Tr) (n : Nat), t.wf n → (t.nam x = false ↔ ∀ u ∈ t.ex, u.asg x = false)
  | .op w as, n, _ => by
    rw [Tr.nam, Tr.ex]
    constructor
    · intro h u m
      rw [List.mem_singleton.mp m]
      exact h
    · intro h
      exact h _ (List.mem_singleton.mpr rfl)
  | .loop k b, 0, h => by rw [Tr.wf] at h; exact h.elim
  | .loop k b, n + 1, h => by
    rw [Tr.wf] at h
    have ih := nams_iff x b n h.2.2.2
    rw [Tr.nam, Tr.ex]
    constructor
    · intro z u m
      obtain ⟨xs, m1, m2⟩ := List.mem_flatten.mp m
      obtain ⟨m3, m4⟩ := List.mem_replicate.mp m1
      rw [m4] at m2
      rw [decide_eq_true (show 0 < k by omega), Bool.true_and] at z
      exact ih.mp z u m2
    · intro z
      by_cases g : 0 < k
      · rw [decide_eq_true g, Bool.true_and]
        refine ih.mpr fun u m => z u (List.mem_flatten.mpr ⟨exs b, List.mem_replicate.mpr ⟨by omega, rfl⟩, m⟩)
      · rw [decide_eq_false g, Bool.false_and]
theorem nams_iff (x : Int) : ∀ (b : List Tr) (n : Nat), wfs b n → (nams x b = false ↔ ∀ u ∈ exs b, u.asg x = false)
  | [], n, _ => by
    rw [nams, exs]
    constructor
    · intro _ u m
      cases m
    · intro _
      rfl
  | t :: r, n, h => by
    rw [wfs] at h
    have h1 := Tr.nam_iff x t n h.1
    have h2 := nams_iff x r n h.2
    rw [nams, exs, Bool.or_eq_false_iff, h1, h2]
    constructor
    · rintro ⟨a, b⟩ u m
      rcases List.mem_append.mp m with m | m
      · exact a u m
      · exact b u m
    · intro z
      exact ⟨fun u m => z u (List.mem_append.mpr (.inl m)), fun u m => z u (List.mem_append.mpr (.inr m))⟩
end
end Lj
namespace Lj
open PySem PySem.Spec PyProof.Rows L2
mutual
theorem Tr.args_in : ∀ (t : Tr) (n : Nat), t.wf n → t.hasArgs → ∀ u ∈ t.ex, u.hasArgs
  | .op w as, n, _, h => by
    rw [Tr.ex]
    intro u m
    rw [List.mem_singleton.mp m]
    exact h
  | .loop k b, 0, h, _ => by rw [Tr.wf] at h; exact h.elim
  | .loop k b, n + 1, h, a => by
    rw [Tr.wf] at h
    rw [Tr.hasArgs] at a
    rw [Tr.ex]
    intro u m
    obtain ⟨xs, m1, m2⟩ := List.mem_flatten.mp m
    rw [(List.mem_replicate.mp m1).2] at m2
    exact exs_args b n h.2.2.2 a u m2
theorem exs_args : ∀ (b : List Tr) (n : Nat), wfs b n → haveArgs b → ∀ u ∈ exs b, u.hasArgs
  | [], _, _, _ => by rw [exs]; intro u m; cases m
  | t :: r, n, h, a => by
    rw [wfs] at h
    rw [haveArgs] at a
    rw [exs]
    intro u m
    rcases List.mem_append.mp m with m | m
    · exact Tr.args_in t n h.1 a.1 u m
    · exact exs_args r n h.2 a.2 u m
end
theorem args_in {b : List Tr} {n j : Nat} {z : Str} {as : List Int} (a : haveArgs b) (h : wfs b n) (e : (exs b)[j]? = some (.op z as)) : as ≠ [] := by
  have := exs_args b n h a _ (List.mem_of_getElem? e)
  rw [Tr.hasArgs] at this
  exact this
end Lj
set_option Elab.async false
set_option linter.all false
set_option maxRecDepth 100000
set_option maxHeartbeats 1000000
/-! ### for i, x in enumerate(t), t a tuple -/
namespace Lj
open PySem PySem.Spec PyProof.Rows L2
theorem meets_enum1 {v : Value} {o : Obj} {S : Heap → Prop} (B : Begins v o S) : Meets (Builtin.«enumerate.__new__» ⟨[.type "enumerate", v], []⟩) (fun _ R s => S s.heap ∧
    R (.ok (.ret (.ref (s.heap.push o).objs.size))) { s with heap := (s.heap.push o).push { cls := .type "enumerate", data := .fields #[.none, .bool false, .ref s.heap.objs.size, rawInt 0, .none, .none] } }) :=
  .of_wp fun prog w A R s h => by
    obtain ⟨hh, gg, dd, tt, oo⟩ := s
    obtain ⟨src, h⟩ := h
    have sub := sub_enumerate
    have walk : ∀ {A' : Around} {E : Value → Shared → Prop} {Q : Value → Shared → Prop}, Q (.ref hh.objs.size) ⟨hh.push o, gg, dd, tt, oo⟩ → wpAny (model prog w) A' (pyIter v) Q E ⟨hh, gg, dd, tt, oo⟩ := fun q => B.iter prog w _ _ ⟨hh, gg, dd, tt, oo⟩ _ src q
    wp_walk using walk
    refine wpAny_stack_any fun st => wpAny_pure ?_
    split
    · rename_i c _ _ _ _ _
      cases (c == Value.type "enumerate") <;> (wp_walk using walk; exact ⟨_, rfl, h⟩)
    · wp_walk using walk
      exact ⟨_, rfl, h⟩
section
variable {prog : Program} {w : World} {A : Around} {E : Value → Shared → Prop} {s : Shared}
theorem call_enum1 {v : Value} {o : Obj} {S : Heap → Prop} {Q : Value → Shared → Prop} (B : Begins v o S) (src : S s.heap)
    (h : ∀ h', IsEnum h' (s.heap.objs.size + 1) s.heap.objs.size 0 .none → h'.get? s.heap.objs.size = some o → (∀ b o, s.heap.get? b = some o → h'.get? b = some o) → Q (.ref (s.heap.objs.size + 1)) { s with heap := h' }) :
    wpAny (model prog w) A (call (.type "enumerate") [v]) Q E s := by
  refine callType_new F.called_enumerate (by decide) (F.typeCall_enumerate_1 _) (F.newCall_enumerate_1 _) (fun obj => F.args_object_init_2 obj _) F.entry_enumerate_new (meets_enum1 B) ⟨src, ?_⟩
  have sz : (s.heap.push o).objs.size = s.heap.objs.size + 1 := Heap.size_push ..
  have he := Heap.get?_push_size (s.heap.push o) (o := { cls := .type "enumerate", data := .fields #[.none, .bool false, .ref s.heap.objs.size, rawInt 0, .none, .none] }) rfl
  show _ ∧ _
  rw [sz] at he ⊢
  exact ⟨⟨_, he, rfl⟩, h _ he (Heap.get?_push_of_some _ (Heap.get?_push_size _ B.free)) fun b o x => Heap.get?_push_of_some _ (Heap.get?_push_of_some _ x)⟩
end
/-- the tuple at a, each item in a new pair -/
def IteT (K : PySem.W.Frag) (a : Addr) : It :=
  ⟨fun i H => ∃ (xs : List V) (x : V), SqT K H a xs ∧ xs[i]? = some x, fun i H v H' => ∃ T x, v = .ref T ∧ H T = none ∧ H' = upd H T (.tup [.int (i : Nat), x]) ∧ ∀ xs, SqT K H a xs → xs[i]? = some x, fun i H => ∃ xs : List V, SqT K H a xs ∧ xs.length = i⟩
theorem turn_enumT {P : Program} {w : World} {K : PySem.W.Frag} {elts : List Expr} {kk : Nat} {tpos : Pos} (a e it : Addr) :
    Turn P w K (.Tuple elts kk tpos) (IteT K a) [e, it] e (fun i h => (∃ old, IsEnum h e it ((i : Nat) : Int) old) ∧ h.IsTupleIter it a i ∧ e ≠ it) where
  mem := by simp
  obj := fun i h st b hb => by
    obtain ⟨⟨old, he⟩, ⟨o, ho, hc, hd⟩, _⟩ := st
    rcases (show b = e ∨ b = it by simpa using hb) with z | z
    · rw [z]
      exact ⟨_, he, fun v q => nomatch q⟩
    · rw [z]
      exact ⟨o, ho, fun v q => by rw [hd] at q; cases q⟩
  keep := fun i h h' st k => let ⟨⟨old, he⟩, hi, hne⟩ := st; ⟨⟨old, k e (by simp) _ he⟩, hi.at fun o q => k it (by simp) o q, hne⟩
  item := by
    intro X hP hw hK hc i pins s σ H E I hf st hg
    subst hP hw hK
    obtain ⟨⟨old, he⟩, hit, hne⟩ := st
    obtain ⟨xs, x, hq, hx⟩ := hg
    obtain ⟨its, rv, p, hz⟩ := I.tuple hq
    obtain ⟨u, hu, ru⟩ := rv.get hx
    have el : e < s.heap.objs.size := Heap.lt_size he
    have il : it < s.heap.objs.size := by obtain ⟨_, q, _⟩ := hit; exact Heap.lt_size q
    have hT0 : s.heap.IsTuple a its.toArray := p
    have ha : a ≠ it := fun z => by
      obtain ⟨o1, e1, c1, _⟩ := hit
      obtain ⟨o2, e2, c2, _⟩ := hT0
      rw [z, e1] at e2
      cases e2
      rw [c1] at c2
      exact absurd c2 (by decide)
    have ha2 : a ≠ e := fun z => by
      obtain ⟨o2, e2, c2, _⟩ := hT0
      rw [z, he] at e2
      cases e2
      exact absurd (show Value.type "enumerate" = Value.type "tuple" from c2) (by decide)
    have hi : i < its.toArray.size := by
      have := (List.getElem?_eq_some_iff.mp hu).1
      simpa using this
    refine wpAny_pyNext_enum_itemD (Draws.tuple (show X.A.in1.handled = none from I.ok.hd hc) it a ha its.toArray) he ⟨hit, hT0⟩ hi hne (by simp [hne, Ne.symm ha2]) fun x' h' tk hPx ho hst' hT hsz hk => ?_
    have ex : x' = u := by
      have : its.toArray[i]? = some x' := hPx
      rw [List.getElem?_toArray, hu] at this
      exact (Option.some.inj this).symm
    subst ex
    refine ⟨_, rfl, wpAny_letOwnedTupleGo_enum (s := { s with heap := h', toks := tk + 1 }) ho fun h'' he' sb => ?_⟩
    have hT2 : h''.get? s.heap.objs.size = some { cls := .type "tuple", data := .seq #[.int i tk, x'] } := (sb.2 _ (Nat.ne_of_gt el)).trans hT
    have new : ObjOk X.prog X.w (upd H s.heap.objs.size (.tup [.int (i : Nat), x])) h'' s.heap.objs.size (.tup [.int (i : Nat), x]) :=
      ⟨by show 2 ≤ sizeLine; decide, [.int i tk, x'], .cons ⟨_, rfl⟩ (.cons ru .nil), ⟨_, hT2, rfl, _, rfl⟩⟩
    have I1 : Inv X pins σ (upd H s.heap.objs.size (.tup [.int (i : Nat), x])) { s with heap := h'', toks := tk + 1 } :=
      I.turnedNew (ch := [e, it]) (fun b ob hb q => (sb.2 b (fun z => hb (by simp [z]))).trans (hk b ob (fun z => hb (by simp [z])) (fun z => hb (by simp [z])) q)) hf (Nat.le_refl _) new
    refine ⟨.ref s.heap.objs.size, _, I1, rfl, ⟨_, x, rfl, I.hok.fresh (Nat.le_refl _), rfl, fun ys hy => by rw [I.tuple_inj hy hq]; exact hx⟩, ⟨⟨x', ?_⟩, hst'.1.at fun o q => (sb.2 it (Ne.symm hne)).trans q, hne⟩, fun b hb => ?_⟩
    · rw [show ((i + 1 : Nat) : Int) = (i : Int) + 1 by omega]
      exact he'
    · have lt : b < s.heap.objs.size := by
        rcases (show b = e ∨ b = it by simpa using hb) with z | z
        · rw [z]; exact el
        · rw [z]; exact il
      rw [upd_ne (Nat.ne_of_lt lt)]
      exact (hf b hb).1
  done := by
    intro X hP hw hK hc i pins s σ H E I hf st hg
    subst hP hw hK
    obtain ⟨⟨old, he⟩, hit, hne⟩ := st
    obtain ⟨xs, hq, hx⟩ := hg
    obtain ⟨its, rv, p, hz⟩ := I.tuple hq
    obtain ⟨f0, f1, f2, f3, f4, f5⟩ := hf it (by simp)
    have hT0 : s.heap.IsTuple a its.toArray := p
    have ha : a ≠ it := fun z => by
      obtain ⟨o1, e1, c1, _⟩ := hit
      obtain ⟨o2, e2, c2, _⟩ := hT0
      rw [z, e1] at e2
      cases e2
      rw [c1] at c2
      exact absurd c2 (by decide)
    have hl : its.toArray.size = i := by
      have := rv.length
      simp
      omega
    subst hl
    exact wpAny_pyNext_enum_endD (Draws.tuple (show X.A.in1.handled = none from I.ok.hd hc) it a ha its.toArray) he ⟨hit, hT0⟩ fun h' eb => ⟨rfl, I.turned (t' := s.toks) (fun b o hb q => eb b o hb q) f0 f1 f3 f4 f5⟩
  self := fun A i s Q E st h => let ⟨⟨_, he⟩, _⟩ := st; wpAny_pyIter_enum he h
def iEnumT (K : PySem.W.Frag) (ta : TA) : TI := fun σ H R => ta σ H fun vs H1 => ∃ a xs, vs = [.ref a] ∧ SqT K H1 a xs ∧ R (IteT K a) H1
theorem pi_enumT {X : Cx} {e : Expr} {ta : TA} {p pos tpos : Pos} {elts : List Expr} {kk : Nat} (hg : Gl X "enumerate") (hm : X.mg "enumerate" = none) (ha : PA X [e] ta) (hs : starEach [e] X.env = [(false, eval e X.env)] := by rfl) :
    PI X (.Tuple elts kk tpos) (.Call (.Name "enumerate" p) [e] [] pos) (iEnumT X.K ta) := by
  refine ⟨fun pins s σ H R I h => ?_⟩
  refine Call_ (ld_blt I hg hm boot_enumerate (PyProof.Rows.callWith_type1 (thn (ha.run pos pins s σ H _ I h) fun us s1 ⟨vs, H1, I1, r1, q1⟩ => ?_) hs rfl))
  obtain ⟨a, xs, ex, hq, q⟩ := q1
  subst ex
  obtain ⟨u, rfl, ru⟩ := r1.one
  cases ru
  obtain ⟨its, rv, p', hz⟩ := I1.tuple hq
  have hT0 : s1.heap.IsTuple a its.toArray := p'
  refine call_enum1 (begins_tuple a its.toArray) hT0 fun h' he hit hk => wpAny_pyIter_enum he ?_
  have I2 : Inv X pins σ H1 { s1 with heap := h' } := I1.kept (t' := s1.toks) hk
  refine ⟨s1.heap.objs.size + 1, [s1.heap.objs.size + 1, s1.heap.objs.size], _, _, H1, rfl, I2, turn_enumT a (s1.heap.objs.size + 1) s1.heap.objs.size, ⟨⟨.none, he⟩, ⟨_, hit, rfl, rfl⟩, Nat.succ_ne_self _⟩, fun b hb => ?_, q⟩
  have hle : s1.heap.objs.size ≤ b := by
    rcases (show b = s1.heap.objs.size + 1 ∨ b = s1.heap.objs.size by simpa using hb) with z | z
    · rw [z]; exact Nat.le_add_right _ _
    · rw [z]; exact Nat.le_refl _
  exact I1.fpOk hle (I1.hok.fresh hle)
theorem walk_enumT {K : PySem.W.Frag} {a : Addr} {xs : List V} : Walk (IteT K a) xs.length (fun H => SqT K H a xs) (YPair (fun i => some (.int (i : Nat))) (fun i => xs[i]?)) := by
  refine ⟨fun i _ hi q => ⟨xs, xs[i], q, by simp [hi]⟩, fun _ q => ⟨xs, q, rfl⟩, fun i H v H' _ q y => ?_⟩
  obtain ⟨T, x, h1, h2, h3, h4⟩ := y
  exact ⟨T, .int (i : Nat), x, h1, h2, h3, rfl, h4 xs q⟩
end Lj
set_option Elab.async false
set_option linter.all false
set_option maxRecDepth 100000
set_option pp.maxSteps 500
set_option pp.deepTerms.threshold 8
set_option pp.deepTerms false
namespace Lj
open PySem PySem.Spec PyProof.Rows L2 HT
/-! ### t[::-1], t a tuple -/
section
variable {prog : Program} {w : World} {A : Around} {E : Value → Shared → Prop} {s : Shared}
end
end Lj
set_option Elab.async false
set_option linter.all false
set_option maxRecDepth 100000
set_option pp.maxSteps 500
set_option pp.deepTerms.threshold 8
set_option pp.deepTerms false
namespace Lj
open PySem PySem.Spec PyProof.Rows L2
/-! ### rows, and what a step does to them -/
def gt (r : List Int) (i : Int) : Int := r.getD i.toNat 0
def sv (r : List Int) (i v : Int) : List Int := r.set i.toNat v
theorem sv_len (r : List Int) (i v : Int) : (sv r i v).length = r.length := List.length_set
def exRow (p : Int) (w : Str) (as r : List Int) : List Int := match as with
  | [x, c] => if w = "set" then sv r (x + 1) (c * gt r 0 % p) else if w = "scale" then sv r (x + 1) (c * gt r (x + 1) % p)
    else if w = "copy" then sv r (x + 1) (gt r (c + 1)) else if w = "swap" then sv (sv r (x + 1) (gt r (c + 1))) (c + 1) (gt r (x + 1)) else r
  | [x, y, c] => sv r (x + 1) ((gt r (x + 1) + c * gt r (y + 1)) % p)
  | _ => r
theorem ex_set (p x c : Int) (r : List Int) : exRow p "set" [x, c] r = sv r (x + 1) (c * gt r 0 % p) := by
  unfold exRow
  exact if_pos rfl
theorem ex_scale (p x c : Int) (r : List Int) : exRow p "scale" [x, c] r = sv r (x + 1) (c * gt r (x + 1) % p) := by
  unfold exRow
  exact (if_neg (by decide)).trans (if_pos rfl)
theorem ex_copy (p x c : Int) (r : List Int) : exRow p "copy" [x, c] r = sv r (x + 1) (gt r (c + 1)) := by
  unfold exRow
  exact (if_neg (by decide)).trans ((if_neg (by decide)).trans (if_pos rfl))
theorem ex_swap (p x c : Int) (r : List Int) : exRow p "swap" [x, c] r = sv (sv r (x + 1) (gt r (c + 1))) (c + 1) (gt r (x + 1)) := by
  unfold exRow
  exact (if_neg (by decide)).trans ((if_neg (by decide)).trans ((if_neg (by decide)).trans (if_pos rfl)))
theorem ex_add (p x y c : Int) (r : List Int) : exRow p "add" [x, y, c] r = sv r (x + 1) ((gt r (x + 1) + c * gt r (y + 1)) % p) := rfl
theorem ex_len {p n : Int} {w : Str} {as r : List Int} (g : GoodOp p n w as) : (exRow p w as r).length = r.length := by
  rcases g with ⟨rfl | rfl, x, c, rfl, _⟩ | ⟨rfl | rfl, x, rfl, _⟩ | ⟨rfl | rfl, x, y, rfl, _⟩ | ⟨rfl, x, y, c, rfl, _⟩
  · rw [ex_set, sv_len]
  · rw [ex_scale, sv_len]
  · rfl
  · rfl
  · rw [ex_copy, sv_len]
  · rw [ex_swap, sv_len, sv_len]
  · rw [ex_add, sv_len]
/-- a run on its way -/
structure RS where
  row : List Int
  tk : Nat
  wr : List Int
def stp (p : Int) (is : List Int) (s : RS) : Tr → RS
  | .op w as => if w = "read" then ⟨sv s.row (as.headD 0 + 1) (is.getD s.tk 0), s.tk + 1, s.wr⟩ else if w = "write" then ⟨s.row, s.tk, s.wr ++ [gt s.row (as.headD 0 + 1)]⟩ else ⟨exRow p w as s.row, s.tk, s.wr⟩
  | .loop _ _ => s
def rns (p : Int) (is : List Int) (s : RS) (E : List Tr) : RS := E.foldl (stp p is) s
theorem rns_append (p : Int) (is : List Int) (s : RS) (E F : List Tr) : rns p is s (E ++ F) = rns p is (rns p is s E) F := List.foldl_append
theorem stp_read (p : Int) (is : List Int) (s : RS) (as : List Int) : stp p is s (.op "read" as) = ⟨sv s.row (as.headD 0 + 1) (is.getD s.tk 0), s.tk + 1, s.wr⟩ := by
  unfold stp
  exact if_pos rfl
theorem stp_write (p : Int) (is : List Int) (s : RS) (as : List Int) : stp p is s (.op "write" as) = ⟨s.row, s.tk, s.wr ++ [gt s.row (as.headD 0 + 1)]⟩ := by
  unfold stp
  exact (if_neg (by decide)).trans (if_pos rfl)
theorem stp_else {p : Int} {is : List Int} {s : RS} {w : Str} {as : List Int} (h1 : w ≠ "read") (h2 : w ≠ "write") : stp p is s (.op w as) = ⟨exRow p w as s.row, s.tk, s.wr⟩ := by
  unfold stp
  exact (if_neg h1).trans (if_neg h2)
/-- good steps, and no others -/
def Goods (p n : Int) (E : List Tr) : Prop := ∀ t ∈ E, ∃ w as, t = .op w as ∧ GoodOp p n w as
theorem stp_len {p n : Int} {is : List Int} {s : RS} {w : Str} {as : List Int} (g : GoodOp p n w as) : (stp p is s (.op w as)).row.length = s.row.length := by
  by_cases h1 : w = "read"
  · subst h1
    rw [stp_read]
    exact sv_len _ _ _
  · by_cases h2 : w = "write"
    · subst h2
      rw [stp_write]
    · rw [stp_else h1 h2]
      exact ex_len g
theorem rns_len {p n : Int} {is : List Int} : ∀ {E : List Tr} {s : RS}, Goods p n E → (rns p is s E).row.length = s.row.length
  | [], _, _ => rfl
  | t :: r, s, g => by
    obtain ⟨w, as, rfl, go⟩ := g t List.mem_cons_self
    show (rns p is (stp p is s (.op w as)) r).row.length = _
    rw [rns_len (fun u m => g u (List.mem_cons_of_mem _ m)), stp_len go]
theorem stp_tk {p : Int} {is : List Int} {s : RS} {w : Str} {as : List Int} : ((stp p is s (.op w as)).tk : Int) = s.tk + rc [.op w as] := by
  by_cases h1 : w = "read"
  · subst h1
    rw [stp_read]
    rfl
  · have e : rc [.op w as] = 0 := by
      show ((([w].count ("read" : Str) : Nat)) : Int) = 0
      rw [List.count_eq_zero_of_not_mem (fun m => h1 (List.mem_singleton.mp m).symm)]
      rfl
    rw [e]
    by_cases h2 : w = "write"
    · subst h2
      rw [stp_write]
      exact (Int.add_zero _).symm
    · rw [stp_else h1 h2]
      exact (Int.add_zero _).symm
theorem rns_tk {p n : Int} {is : List Int} : ∀ {E : List Tr} {s : RS}, Goods p n E → ((rns p is s E).tk : Int) = s.tk + rc E
  | [], s, _ => (Int.add_zero _).symm
  | t :: r, s, g => by
    obtain ⟨w, as, rfl, go⟩ := g t List.mem_cons_self
    show ((rns p is (stp p is s (.op w as)) r).tk : Int) = _
    rw [rns_tk (fun u m => g u (List.mem_cons_of_mem _ m)), stp_tk, Int.add_assoc, ← rc_append]
    rfl
theorem Goods.take {p n : Int} {E : List Tr} (g : Goods p n E) (i : Nat) : Goods p n (E.take i) := fun t m => g t (List.mem_of_mem_take m)
/-- field elements -/
def In (p : Int) (r : List Int) : Prop := ∀ x ∈ r, 0 ≤ x ∧ x < p
/-! ### the promise of executed -/
/-! ### the runner: an object -/
section
variable (p : Int) (l g : Addr) (t : Int) (wl : Addr)
end
structure RTxt (K : PySem.W.Frag) (mg : Str → Option Value) (C : Addr) : Prop where
  cl : Cls K C
  nP : NoAttr K C "p"
  nR : NoAttr K C "row"
  nG : NoAttr K C "given"
  nT : NoAttr K C "taken"
  nW : NoAttr K C "written"
  mgC : mg "Runner" = some (.ref C)
end Lj
set_option Elab.async false
set_option linter.all false
set_option maxRecDepth 100000
set_option pp.maxSteps 500
set_option pp.deepTerms.threshold 8
set_option pp.deepTerms false
namespace Lj
open PySem PySem.Spec PyProof.Rows L2
/-! ### how much is executed, loops of at most r rounds -/
def mostR (r : Nat) : Nat → Nat → Nat
  | 0, _ => 1
  | d + 1, l => max 1 (r * ((l / 2) * mostR r d (l / 2)))
mutual
theorem Tr.made_exR {r : Nat} {G : Str → List Int → Prop} {R : Int → Prop} (hR : ∀ k, R k → 0 ≤ k ∧ k ≤ (r : Int)) : ∀ (t : Tr) (l d : Nat), t.made G R l d → t.ex.length ≤ mostR r d l
  | .op w as, l, 0, h => by rw [Tr.ex, mostR]; exact Nat.le_refl 1
  | .op w as, l, d + 1, h => by rw [Tr.ex, mostR]; exact Nat.le_max_left _ _
  | .loop k b, l, 0, h => by
    rw [Tr.made] at h
    exact h.elim
  | .loop k b, l, d + 1, h => by
    rw [Tr.made] at h
    have ih := mades_exR hR b (l / 2) d h.2.2
    have hk := hR k h.1
    rw [Tr.ex, mostR, List.length_flatten, List.map_replicate, List.sum_replicate_nat]
    refine Nat.le_trans ?_ (Nat.le_max_right _ _)
    have h1 : (exs b).length ≤ l / 2 * mostR r d (l / 2) := Nat.le_trans ih (Nat.mul_le_mul_right _ h.2.1)
    exact Nat.mul_le_mul (by omega) h1
theorem mades_exR {r : Nat} {G : Str → List Int → Prop} {R : Int → Prop} (hR : ∀ k, R k → 0 ≤ k ∧ k ≤ (r : Int)) : ∀ (b : List Tr) (l d : Nat), mades G R b l d → (exs b).length ≤ b.length * mostR r d l
  | [], _, _, _ => by rw [exs]; exact Nat.zero_le _
  | t :: q, l, d, h => by
    rw [mades] at h
    have h1 := Tr.made_exR hR t l d h.1
    have h2 := mades_exR hR q l d h.2
    rw [exs, List.length_append, List.length_cons, Nat.succ_mul]
    omega
end
theorem mostR0 (r : Nat) : ∀ d, mostR r d 0 = 1
  | 0 => rfl
  | d + 1 => by
    rw [mostR]
    show max 1 (r * (0 * _)) = 1
    rw [Nat.zero_mul, Nat.mul_zero]
    rfl
mutual
theorem Tr.made_fineR {r : Nat} {G : Str → List Int → Prop} {R : Int → Prop} (r1 : 1 ≤ r) (hG : ∀ w as, G w as → w ∈ W7) (hR : ∀ k, R k → 0 ≤ k ∧ k ≤ (r : Int)) : ∀ (t : Tr) (l d : Nat), max 1 l * mostR r d l ≤ 100000 → t.made G R l d → t.fine
  | .op w as, l, d, _, h => by
    rw [Tr.made] at h
    rw [Tr.fine]
    exact hG w as h
  | .loop k b, l, 0, _, h => by rw [Tr.made] at h; exact h.elim
  | .loop k b, l, d + 1, hb, h => by
    rw [Tr.made] at h
    rw [Tr.fine]
    have h1 : l / 2 * mostR r d (l / 2) ≤ 100000 := by
      have h0 : mostR r (d + 1) l ≤ 100000 := Nat.le_trans (Nat.le_mul_of_pos_left _ (by omega)) hb
      rw [mostR] at h0
      exact Nat.le_trans (Nat.le_mul_of_pos_left _ r1) (Nat.le_trans (Nat.le_max_right _ _) h0)
    have h2 := mades_exR hR b (l / 2) d h.2.2
    have h3 : b.length * mostR r d (l / 2) ≤ l / 2 * mostR r d (l / 2) := Nat.mul_le_mul_right _ h.2.1
    refine ⟨by omega, mades_fineR r1 hG hR b (l / 2) d ?_ h.2.2⟩
    by_cases z : l / 2 = 0
    · rw [z, mostR0]
      decide
    · rw [show max 1 (l / 2) = l / 2 by omega]
      omega
theorem mades_fineR {r : Nat} {G : Str → List Int → Prop} {R : Int → Prop} (r1 : 1 ≤ r) (hG : ∀ w as, G w as → w ∈ W7) (hR : ∀ k, R k → 0 ≤ k ∧ k ≤ (r : Int)) : ∀ (b : List Tr) (l d : Nat), max 1 l * mostR r d l ≤ 100000 → mades G R b l d → fines b
  | [], _, _, _, _ => by rw [fines]; trivial
  | t :: q, l, d, hl, h => by
    rw [mades] at h
    rw [fines]
    exact ⟨Tr.made_fineR r1 hG hR t l d hl h.1, mades_fineR r1 hG hR q l d hl h.2⟩
end
mutual
theorem Tr.made_ops {G : Str → List Int → Prop} {R : Int → Prop} : ∀ (t : Tr) (l d : Nat), t.made G R l d → ∀ x ∈ t.ex, ∃ z as, x = .op z as ∧ G z as
  | .op w as, l, d, h => by
    rw [Tr.made] at h
    rw [Tr.ex]
    intro t m
    exact ⟨w, as, List.mem_singleton.mp m, h⟩
  | .loop k b, l, 0, h => by rw [Tr.made] at h; exact h.elim
  | .loop k b, l, d + 1, h => by
    rw [Tr.made] at h
    rw [Tr.ex]
    intro t m
    obtain ⟨xs, m1, m2⟩ := List.mem_flatten.mp m
    rw [(List.mem_replicate.mp m1).2] at m2
    exact mades_ops b (l / 2) d h.2.2 t m2
theorem mades_ops {G : Str → List Int → Prop} {R : Int → Prop} : ∀ (b : List Tr) (l d : Nat), mades G R b l d → ∀ x ∈ exs b, ∃ z as, x = .op z as ∧ G z as
  | [], _, _, _ => by rw [exs]; intro t m; cases m
  | t :: r, l, d, h => by
    rw [mades] at h
    rw [exs]
    intro u m
    rcases List.mem_append.mp m with m | m
    · exact Tr.made_ops t l d h.1 u m
    · exact mades_ops r l d h.2 u m
end
/-! ### a history, or a result, in the heap: a pair of tuples -/
def HistAt (K : PySem.W.Frag) (H : Hp) (v : V) (h : List Int × List Int) : Prop := ∃ T t1 t2, v = .ref T ∧ SqT K H T [.ref t1, .ref t2] ∧ SqT K H t1 (h.1.map V.int) ∧ SqT K H t2 (h.2.map V.int)
theorem HistAt.kt {K : PySem.W.Frag} {H H' : Hp} {v : V} {h : List Int × List Int} (k : Kt H H') (x : HistAt K H v h) : HistAt K H' v h := by
  obtain ⟨T, t1, t2, e, a, b, c⟩ := x
  exact ⟨T, t1, t2, e, k.sq a, k.sq b, k.sq c⟩
def HistsAt (K : PySem.W.Frag) (H : Hp) : List V → List (List Int × List Int) → Prop
  | [], [] => True
  | v :: vs, h :: hs => HistAt K H v h ∧ HistsAt K H vs hs
  | _, _ => False
theorem HistsAt.kt {K : PySem.W.Frag} {H H' : Hp} (k : Kt H H') : ∀ {vs : List V} {hs : List (List Int × List Int)}, HistsAt K H vs hs → HistsAt K H' vs hs
  | [], [], _ => trivial
  | v :: vs, h :: hs, ⟨a, b⟩ => ⟨a.kt k, HistsAt.kt k b⟩
  | [], _ :: _, x => x.elim
  | _ :: _, [], x => x.elim
theorem HistsAt.snoc {K : PySem.W.Frag} {H : Hp} {v : V} {h : List Int × List Int} (a : HistAt K H v h) : ∀ {vs : List V} {hs : List (List Int × List Int)}, HistsAt K H vs hs → HistsAt K H (vs ++ [v]) (hs ++ [h])
  | [], [], _ => ⟨a, trivial⟩
  | _ :: _, _ :: _, ⟨x, y⟩ => ⟨x, HistsAt.snoc a y⟩
  | [], _ :: _, x => x.elim
  | _ :: _, [], x => x.elim
theorem HistsAt.get {K : PySem.W.Frag} {H : Hp} : ∀ {vs : List V} {hs : List (List Int × List Int)} {i : Nat} {v : V}, HistsAt K H vs hs → vs[i]? = some v → ∃ h, hs[i]? = some h ∧ HistAt K H v h
  | [], [], _, _, _, e => by simp at e
  | v :: vs, h :: hs, 0, _, ⟨a, _⟩, e => by
    cases e
    exact ⟨h, rfl, a⟩
  | v :: vs, h :: hs, i + 1, _, ⟨_, b⟩, e => HistsAt.get (i := i) b e
  | [], _ :: _, _, _, x, _ => x.elim
  | _ :: _, [], _, _, x, _ => x.elim
theorem HistsAt.length {K : PySem.W.Frag} {H : Hp} : ∀ {vs : List V} {hs : List (List Int × List Int)}, HistsAt K H vs hs → vs.length = hs.length
  | [], [], _ => rfl
  | _ :: _, _ :: _, ⟨_, b⟩ => by rw [List.length_cons, List.length_cons, HistsAt.length b]
  | [], _ :: _, x => x.elim
  | _ :: _, [], x => x.elim
def pairD (h : List Int × List Int) : PyData := .tuple [.tuple (h.1.map PyData.int), .tuple (h.2.map PyData.int)]
theorem HistAt.dp {K : PySem.W.Frag} {H : Hp} {v : V} {h : List Int × List Int} (x : HistAt K H v h) : Dp K H v (pairD h) := by
  obtain ⟨T, t1, t2, rfl, a, b, c⟩ := x
  exact .tup a (.cons (.tup b (dp_ints _)) (.cons (.tup c (dp_ints _)) .nil))
end Lj
set_option linter.all false
namespace Lj
/-! ### rows over the integers modulo p: combinations, spans, dimensions -/
abbrev Row := Nat → Int
def comb : List Int → List Row → Nat → Int
  | w :: ws, r :: R, i => w * r i + comb ws R i
  | _, _, _ => 0
/-- x is, in the places below L, a combination of R -/
def InSp (p : Int) (L : Nat) (R : List Row) (x : Row) : Prop := ∃ ws, ∀ i, i < L → p ∣ x i - comb ws R i
theorem comb_nil (ws : List Int) (i : Nat) : comb ws [] i = 0 := by cases ws <;> rfl
theorem comb_nilL (R : List Row) (i : Nat) : comb [] R i = 0 := by cases R <;> rfl
def scal (c : Int) : List Int → List Int
  | [] => []
  | w :: ws => c * w :: scal c ws
theorem comb_scal (c : Int) : ∀ (ws : List Int) (R : List Row) (i : Nat), comb (scal c ws) R i = c * comb ws R i
  | [], R, i => by rw [scal, comb_nilL, Int.mul_zero]
  | w :: ws, [], i => by rw [comb_nil, comb_nil, Int.mul_zero]
  | w :: ws, r :: R, i => by
    rw [scal, comb, comb, comb_scal c ws R i]
    grind
def plus : List Int → List Int → List Int
  | [], v => v
  | w, [] => w
  | a :: w, b :: v => (a + b) :: plus w v
theorem comb_plus : ∀ (ws vs : List Int) (R : List Row) (i : Nat), comb (plus ws vs) R i = comb ws R i + comb vs R i
  | [], v, R, i => by rw [plus, comb_nilL, Int.zero_add]
  | a :: w, [], R, i => by rw [plus, comb_nilL, Int.add_zero]; intro h; cases h
  | a :: w, b :: v, [], i => by rw [comb_nil, comb_nil, comb_nil]; rfl
  | a :: w, b :: v, r :: R, i => by
    rw [plus, comb, comb, comb, comb_plus w v R i]
    grind
section
variable {p : Int} {L : Nat}
theorem InSp.zero {R : List Row} {x : Row} (h : ∀ i, i < L → p ∣ x i) : InSp p L R x := ⟨[], fun i hi => by rw [comb_nilL, Int.sub_zero]; exact h i hi⟩
theorem InSp.lin {R : List Row} {x y z : Row} (a b : Int) (hx : InSp p L R x) (hy : InSp p L R y) (hz : ∀ i, i < L → p ∣ z i - (a * x i + b * y i)) : InSp p L R z := by
  obtain ⟨ws, hw⟩ := hx
  obtain ⟨vs, hv⟩ := hy
  refine ⟨plus (scal a ws) (scal b vs), fun i hi => ?_⟩
  rw [comb_plus, comb_scal, comb_scal]
  obtain ⟨k1, e1⟩ := hw i hi
  obtain ⟨k2, e2⟩ := hv i hi
  obtain ⟨k3, e3⟩ := hz i hi
  refine ⟨k3 + a * k1 + b * k2, ?_⟩
  grind
theorem InSp.cong {R : List Row} {x z : Row} (hx : InSp p L R x) (hz : ∀ i, i < L → p ∣ z i - x i) : InSp p L R z := by
  refine InSp.lin 1 0 hx hx fun i hi => ?_
  obtain ⟨k, e⟩ := hz i hi
  exact ⟨k, by grind⟩
theorem InSp.mem {r : Row} : ∀ {R : List Row}, r ∈ R → InSp p L R r
  | a :: R, h => by
    rcases List.mem_cons.mp h with rfl | h
    · refine ⟨[1], fun i _ => ?_⟩
      rw [comb, comb_nilL]
      exact ⟨0, by grind⟩
    · obtain ⟨ws, hw⟩ := InSp.mem h
      refine ⟨0 :: ws, fun i hi => ?_⟩
      rw [comb]
      obtain ⟨k, e⟩ := hw i hi
      exact ⟨k, by grind⟩
theorem InSp.of_comb {S : List Row} : ∀ {R : List Row} (ws : List Int), (∀ r ∈ R, InSp p L S r) → InSp p L S (comb ws R)
  | [], ws, _ => InSp.zero fun i _ => by rw [comb_nil]; exact Int.dvd_zero _
  | a :: R, [], _ => InSp.zero fun i _ => by rw [comb_nilL]; exact Int.dvd_zero _
  | a :: R, w :: ws, h => by
    refine InSp.lin w 1 (h a List.mem_cons_self) (InSp.of_comb ws fun r m => h r (List.mem_cons_of_mem _ m)) fun i _ => ?_
    rw [comb]
    exact ⟨0, by grind⟩
theorem InSp.into {R S : List Row} {x : Row} (hx : InSp p L R x) (h : ∀ r ∈ R, InSp p L S r) : InSp p L S x := by
  obtain ⟨ws, hw⟩ := hx
  exact (InSp.of_comb ws h).cong hw
theorem InSp.mono {R S : List Row} {x : Row} (hx : InSp p L R x) (h : ∀ r ∈ R, r ∈ S) : InSp p L S x := hx.into fun r m => InSp.mem (h r m)
theorem InSp.cons_iff {R : List Row} {a x : Row} : InSp p L (a :: R) x ↔ ∃ c : Int, InSp p L R fun i => x i - c * a i := by
  constructor
  · rintro ⟨ws, hw⟩
    cases ws with
    | nil =>
      refine ⟨0, InSp.zero fun i hi => ?_⟩
      have := hw i hi
      rw [comb_nilL, Int.sub_zero] at this
      rw [Int.zero_mul, Int.sub_zero]
      exact this
    | cons w ws =>
      refine ⟨w, ws, fun i hi => ?_⟩
      have := hw i hi
      rw [comb] at this
      rw [show x i - w * a i - comb ws R i = x i - (w * a i + comb ws R i) by omega]
      exact this
  · rintro ⟨c, h⟩
    refine InSp.lin 1 c (h.mono fun r m => List.mem_cons_of_mem _ m) (InSp.mem (r := a) List.mem_cons_self) fun i _ => ⟨0, by grind⟩
/-- p is a prime as far as inverses go -/
def PInv (p : Int) : Prop := 1 < p ∧ ∀ a : Int, ¬ p ∣ a → ∃ b : Int, p ∣ a * b - 1
theorem InSp.swap {R : List Row} {a b : Row} (hp : PInv p) (h : InSp p L (a :: R) b) (n : ¬ InSp p L R b) : InSp p L (b :: R) a := by
  obtain ⟨c, hc⟩ := InSp.cons_iff.mp h
  by_cases d : p ∣ c
  · refine absurd (hc.cong fun i _ => ?_) n
    obtain ⟨k, e⟩ := d
    exact ⟨k * a i, by grind⟩
  · obtain ⟨u, k, e⟩ := hp.2 c d
    refine InSp.lin u (-u) (InSp.mem (r := b) List.mem_cons_self) (hc.mono fun r m => List.mem_cons_of_mem _ m) fun i _ => ?_
    exact ⟨- k * a i, by grind⟩
/-! ### dimension, counted from the front -/
end
end Lj
set_option linter.all false
namespace Lj
/-! ### inverses by powers, as the law finds them -/
/-! ### sums, dot products -/
def sumF (f : Nat → Int) : Nat → Int
  | 0 => 0
  | n + 1 => sumF f n + f n
theorem sumF_cong {f g : Nat → Int} : ∀ {n : Nat}, (∀ k, k < n → f k = g k) → sumF f n = sumF g n
  | 0, _ => rfl
  | n + 1, h => by rw [sumF, sumF, sumF_cong fun k hk => h k (Nat.lt_succ_of_lt hk), h n (Nat.lt_succ_self n)]
theorem sumF_add (f : Nat → Int) (a : Nat) : ∀ b : Nat, sumF f (a + b) = sumF f a + sumF (fun i => f (a + i)) b
  | 0 => by rw [sumF, Nat.add_zero, Int.add_zero]
  | b + 1 => by rw [← Nat.add_assoc, sumF, sumF_add f a b, sumF]; omega
theorem sumF_zero {f : Nat → Int} : ∀ {n : Nat}, (∀ k, k < n → f k = 0) → sumF f n = 0
  | 0, _ => rfl
  | n + 1, h => by rw [sumF, sumF_zero fun k hk => h k (Nat.lt_succ_of_lt hk), h n (Nat.lt_succ_self n)]; rfl
def dot (n : Nat) (e v : Nat → Int) : Int := sumF (fun k => e k * v k) n
/-- e begins at c, with 1 -/
def Begins (c : Nat) (e : Nat → Int) : Prop := (∀ k, k < c → e k = 0) ∧ e c = 1
theorem dot_begins {n c : Nat} {e v : Nat → Int} (h : Begins c e) (hc : c < n) : dot n e v = v c + sumF (fun i => e (c + 1 + i) * v (c + 1 + i)) (n - (c + 1)) := by
  unfold dot
  obtain ⟨m, rfl⟩ : ∃ m, n = c + 1 + m := ⟨n - (c + 1), by omega⟩
  rw [sumF_add, sumF, sumF_zero fun k hk => by rw [h.1 k hk, Int.zero_mul], h.2, show c + 1 + m - (c + 1) = m by omega]
  omega
theorem dot_last {n c : Nat} {e v : Nat → Int} (h : Begins c e) (hc : c < n) (hv : ∀ k, c < k → k < n → v k = 0) : dot n e v = v c := by
  rw [dot_begins h hc, sumF_zero fun k hk => by rw [hv _ (by omega) (by omega), Int.mul_zero]]
  omega
/-! ### weights of rows: what the equations say -/
/-- the weights ws, then -1 -/
def ext (m : Nat) (w : Nat → Int) : Nat → Int := fun k => if k < m then w k else -1
/-- the sum of rows by index -/
theorem comb_sum : ∀ (ws : List Int) (R : List Row) (i : Nat), ws.length = R.length → comb ws R i = sumF (fun k => (R.getD k fun _ => 0) i * ws.getD k 0) R.length
  | [], [], i, _ => rfl
  | w :: ws, r :: R, i, h => by
    rw [comb, comb_sum ws R i (by simpa using h), List.length_cons, Nat.add_comm R.length 1, sumF_add, sumF, sumF]
    simp only [Nat.add_comm 1, List.getD_cons_succ, List.getD_cons_zero]
    grind
/-- a combination may be given as many weights as there are rows -/
theorem comb_pad : ∀ (ws : List Int) (R : List Row), ∃ vs : List Int, vs.length = R.length ∧ ∀ i, comb vs R i = comb ws R i
  | ws, [] => ⟨[], rfl, fun i => by rw [comb_nil, comb_nil]⟩
  | [], r :: R => by
    obtain ⟨vs, h, e⟩ := comb_pad [] R
    refine ⟨0 :: vs, by simp [h], fun i => ?_⟩
    rw [comb, e, comb_nilL, comb_nilL]
    omega
  | w :: ws, r :: R => by
    obtain ⟨vs, h, e⟩ := comb_pad ws R
    refine ⟨w :: vs, by simp [h], fun i => ?_⟩
    rw [comb, comb, e]
theorem InSp.sum {p : Int} {L : Nat} {R : List Row} {x : Row} : InSp p L R x ↔ ∃ w : Nat → Int, ∀ i, i < L → p ∣ x i - sumF (fun k => (R.getD k fun _ => 0) i * w k) R.length := by
  constructor
  · rintro ⟨ws, h⟩
    obtain ⟨vs, hl, e⟩ := comb_pad ws R
    refine ⟨fun k => vs.getD k 0, fun i hi => ?_⟩
    rw [← comb_sum vs R i hl, e]
    exact h i hi
  · rintro ⟨w, h⟩
    refine ⟨(List.range R.length).map w, fun i hi => ?_⟩
    rw [comb_sum _ R i (by simp)]
    have e : sumF (fun k => (R.getD k fun _ => 0) i * ((List.range R.length).map w).getD k 0) R.length = sumF (fun k => (R.getD k fun _ => 0) i * w k) R.length := sumF_cong fun k hk => by
      rw [List.getD_eq_getElem?_getD (l := (List.range R.length).map w), List.getElem?_map, List.getElem?_range hk]
      rfl
    rw [e]
    exact h i hi
/-- the coefficients of place i: one for each row, then the right side -/
def eqn (R : List Row) (x : Row) (i : Nat) : Nat → Int := fun k => if k < R.length then (R.getD k fun _ => 0) i else x i
theorem dot_eqn (R : List Row) (x : Row) (i : Nat) (w : Nat → Int) : dot (R.length + 1) (eqn R x i) (ext R.length w) = sumF (fun k => (R.getD k fun _ => 0) i * w k) R.length - x i := by
  unfold dot
  rw [sumF]
  have e : sumF (fun k => eqn R x i k * ext R.length w k) R.length = sumF (fun k => (R.getD k fun _ => 0) i * w k) R.length := sumF_cong fun k hk => by
    unfold eqn ext
    rw [if_pos hk, if_pos hk]
  rw [e]
  unfold eqn ext
  rw [if_neg (Nat.lt_irrefl _), if_neg (Nat.lt_irrefl _)]
  omega
/-- what is known of the leading equations: lead c e says that e leads at c -/
structure Lead (p : Int) (R : List Row) (x : Row) (L : Nat) (lead : Nat → (Nat → Int) → Prop) : Prop where
  bg : ∀ c e, lead c e → c ≤ R.length ∧ Begins c e
  same : ∀ v : Nat → Int, (∀ i, i < L → p ∣ dot (R.length + 1) (eqn R x i) v) ↔ ∀ c e, lead c e → p ∣ dot (R.length + 1) e v
theorem Lead.none {p : Int} {R : List Row} {x : Row} {L : Nat} {lead : Nat → (Nat → Int) → Prop} (h : Lead p R x L lead) (hp : 1 < p) {e : Nat → Int} (k : lead R.length e) : ¬ InSp p L R x := by
  intro z
  obtain ⟨w, hw⟩ := InSp.sum.mp z
  have y := (h.same (ext R.length w)).mp (fun i hi => by
    rw [dot_eqn]
    obtain ⟨a, ha⟩ := hw i hi
    exact ⟨-a, by grind⟩) _ _ k
  rw [dot_last (h.bg _ _ k).2 (by omega) (fun j h1 h2 => by omega)] at y
  unfold ext at y
  rw [if_neg (Nat.lt_irrefl _)] at y
  obtain ⟨a, ha⟩ := y
  have : p ∣ 1 := ⟨-a, by grind⟩
  have := Int.le_of_dvd (by decide) this
  omega
theorem Lead.some {p : Int} {R : List Row} {x : Row} {L : Nat} {lead : Nat → (Nat → Int) → Prop} (h : Lead p R x L lead) {w : Nat → Int} (k : ∀ c e, lead c e → p ∣ dot (R.length + 1) e (ext R.length w)) : ∀ i, i < L → p ∣ x i - sumF (fun k => (R.getD k fun _ => 0) i * w k) R.length := by
  intro i hi
  have y := (h.same _).mpr k i hi
  rw [dot_eqn] at y
  obtain ⟨a, ha⟩ := y
  exact ⟨-a, by grind⟩
theorem Lead.new {p : Int} {R : List Row} {x : Row} {L : Nat} {lead : Nat → (Nat → Int) → Prop} (h : Lead p R x L lead) (hp : 1 < p) {c : Nat} {e : Nat → Int} (k : lead c e) (hc : c < R.length) : ¬ InSp p L (R.take c) (R.getD c fun _ => 0) := by
  intro z
  obtain ⟨w, hw⟩ := InSp.sum.mp z
  have lt : (R.take c).length = c := by rw [List.length_take]; omega
  rw [lt] at hw
  have y := (h.same (fun j => if j < c then w j else if j = c then -1 else 0)).mp (fun i hi => by
    obtain ⟨a, ha⟩ := hw i hi
    have e0 : dot (R.length + 1) (eqn R x i) (fun j => if j < c then w j else if j = c then -1 else 0) = sumF (fun k => ((R.take c).getD k fun _ => 0) i * w k) c - (R.getD c fun _ => 0) i := by
      unfold dot
      obtain ⟨m, hm⟩ : ∃ m, R.length + 1 = c + 1 + m := ⟨R.length - c, by omega⟩
      rw [hm, sumF_add, sumF]
      have z1 : sumF (fun i_1 => eqn R x i (c + 1 + i_1) * if c + 1 + i_1 < c then w (c + 1 + i_1) else if c + 1 + i_1 = c then -1 else 0) m = 0 := sumF_zero fun k _ => by
        rw [if_neg (by omega), if_neg (by omega), Int.mul_zero]
      have z2 : sumF (fun k => eqn R x i k * if k < c then w k else if k = c then -1 else 0) c = sumF (fun k => ((R.take c).getD k fun _ => 0) i * w k) c := sumF_cong fun k hk => by
        rw [if_pos hk]
        unfold eqn
        rw [if_pos (by omega), List.getD_eq_getElem?_getD, List.getD_eq_getElem?_getD, List.getElem?_take_of_lt hk]
      rw [z1, z2]
      have z3 : (if c < c then w c else if c = c then -1 else 0 : Int) = -1 := by rw [if_neg (Nat.lt_irrefl _), if_pos rfl]
      have z4 : eqn R x i c = (R.getD c fun _ => 0) i := by
        unfold eqn
        rw [if_pos hc]
      show _ + eqn R x i c * (if c < c then w c else if c = c then -1 else 0) + 0 = _
      rw [z3, z4]
      omega
    exact ⟨-a, by rw [e0]; grind⟩) _ _ k
  rw [dot_last (h.bg _ _ k).2 (by omega) (fun j h1 h2 => by rw [if_neg (by omega), if_neg (by omega)]), if_neg (Nat.lt_irrefl _), if_pos rfl] at y
  obtain ⟨a, ha⟩ := y
  have : p ∣ 1 := ⟨-a, by grind⟩
  have := Int.le_of_dvd (by decide) this
  omega
/-! ### weights are unique -/
/-- the weights of x: field elements, 0 where a row is a combination of those before it -/
structure Wts (p : Int) (L : Nat) (R : List Row) (x : Row) (w : List Int) : Prop where
  len : w.length = R.length
  bd : ∀ a ∈ w, 0 ≤ a ∧ a < p
  sum : ∀ i, i < L → p ∣ x i - sumF (fun k => (R.getD k fun _ => 0) i * w.getD k 0) R.length
  nz : ∀ c, c < R.length → w.getD c 0 ≠ 0 → ¬ InSp p L (R.take c) (R.getD c fun _ => 0)
end Lj
set_option Elab.async false
set_option linter.all false
set_option maxRecDepth 100000
set_option maxHeartbeats 1000000
namespace Lj
open PySem PySem.Spec PyProof.Rows L2
/-! ### sorted(d, reverse=b), d a dict with int keys -/
end Lj
set_option Elab.async false
set_option linter.all false
set_option maxRecDepth 100000
set_option maxHeartbeats 1000000
namespace Lj
open PySem PySem.Spec PyProof.Rows L2
theorem un1 {k : Nat} {A : Around} (hr : Room k A) : A.units + 1 < cLine := by
  have := hr.un
  omega
theorem ifNN {c A B : Prop} [Decidable c] (h : c) (b : B) : if (!decide c) = true then A else B := by
  rw [decide_eq_true h]
  exact b
/-! ### a walk over a list or a tuple -/
/-! ### tuple * number, also once -/
/-! ### rows of field elements -/
def row (ns : List Int) : Row := fun i => ns.getD i 0
def Fe (p : Int) (ns : List Int) : Prop := ∀ a ∈ ns, 0 ≤ a ∧ a < p
theorem row_at {ns : List Int} {i : Nat} (h : i < ns.length) : ns[i]? = some (row ns i) := by
  unfold row
  rw [List.getD_eq_getElem?_getD, List.getElem?_eq_getElem h]
  rfl
theorem Fe.row {p : Int} {ns : List Int} (h : Fe p ns) {i : Nat} (hi : i < ns.length) : 0 ≤ row ns i ∧ row ns i < p := h _ (by
  have e := row_at hi
  exact (List.getElem?_eq_some_iff.mp e).2 ▸ List.getElem_mem _)
theorem Fe.mod {p : Int} (hp : 0 < p) (f : Int → Int) (ns : List Int) : Fe p (ns.map fun a => f a % p) := fun a m => by
  obtain ⟨b, _, rfl⟩ := List.mem_map.mp m
  exact ⟨Int.emod_nonneg _ (by omega), Int.emod_lt_of_pos _ hp⟩
/-! ### leading equations, in the heap -/
structure Ent where
  c : Nat
  b : Addr
  es : List Int
/-- v kills all rows -/
def Kl (p : Int) (N : Nat) (v : Nat → Int) (R : List (List Int)) : Prop := ∀ ns ∈ R, p ∣ dot N (row ns) v
def KlE (p : Int) (N : Nat) (v : Nat → Int) (E : List Ent) : Prop := ∀ e ∈ E, p ∣ dot N (row e.es) v
theorem KlE.snoc {p : Int} {N : Nat} {v : Nat → Int} {E : List Ent} {e : Ent} : KlE p N v (E ++ [e]) ↔ KlE p N v E ∧ p ∣ dot N (row e.es) v :=
  ⟨fun h => ⟨fun x m => h x (List.mem_append_left _ m), h e (List.mem_append_right _ List.mem_cons_self)⟩, fun h x m => by
    rcases List.mem_append.mp m with m | m
    · exact h.1 x m
    · rw [List.mem_singleton.mp m]
      exact h.2⟩
theorem Kl.snoc {p : Int} {N : Nat} {v : Nat → Int} {R : List (List Int)} {ns : List Int} : Kl p N v (R ++ [ns]) ↔ Kl p N v R ∧ p ∣ dot N (row ns) v :=
  ⟨fun h => ⟨fun x m => h x (List.mem_append_left _ m), h ns (List.mem_append_right _ List.mem_cons_self)⟩, fun h x m => by
    rcases List.mem_append.mp m with m | m
    · exact h.1 x m
    · rw [List.mem_singleton.mp m]
      exact h.2⟩
/-! ### keyword arguments of three, in the reverse order -/
end Lj
set_option Elab.async false
set_option linter.all false
set_option maxRecDepth 100000
set_option pp.maxSteps 500
set_option pp.deepTerms.threshold 8
set_option pp.deepTerms false
namespace Lj
open PySem PySem.Spec PyProof.Rows L2
/-! ### which data are instructions -/
def isBd (lo hi : Int) : PyData → Bool
  | .int i => decide (lo ≤ i) && decide (i ≤ hi)
  | _ => false
/-- how many registers follow a word, and the least field element behind them -/
def shp (w : Str) : Option (Nat × Option Int) :=
  if w = "set" then some (1, some 0) else if w = "copy" then some (2, none) else if w = "add" then some (2, some 1) else if w = "scale" then some (1, some 0) else if w = "swap" then some (2, none) else if w = "read" then some (1, none) else if w = "write" then some (1, none) else none
def sameI : PyData → PyData → Bool
  | .int i, .int j => decide (i = j)
  | _, _ => false
def regsD (n : Int) (ds : List PyData) : Bool := ds.all (isBd 0 (n - 1)) && (match ds with
  | a :: b :: _ => !sameI a b
  | _ => true)
def shapeD (p n : Int) (s : Nat × Option Int) (ds : List PyData) : Bool := match s.2 with
  | none => decide (ds.length = s.1) && regsD n ds
  | some c => decide (ds.length = s.1 + 1) && (regsD n (ds.take s.1) && isBd c (p - 1) (ds.getD s.1 .none))
def okBl (f : PyData → Bool) : PyData → Bool
  | .tuple bs => bs.all f
  | _ => false
def okS (p n : Int) (lp : List PyData → Bool) : PyData → Bool
  | .tuple (.str w :: ds) => if w = "loop" then lp ds else match shp w with
    | none => false
    | some s => shapeD p n s ds
  | _ => false
def lpD (p : Int) (f : PyData → Bool) : List PyData → Bool
  | [k, b] => isBd 0 (10 ^ 18) k && okBl f b
  | _ => false
def okI (p n : Int) : Nat → PyData → Bool
  | 0 => okS p n fun _ => false
  | lv + 1 => okS p n (lpD p (okI p n lv))
/-! ### measures -/
mutual
/-- the longest list or tuple within -/
def lx : PyData → Nat
  | .list ds => max ds.length (lxs ds)
  | .tuple ds => max ds.length (lxs ds)
  | _ => 0
def lxs : List PyData → Nat
  | [] => 0
  | d :: ds => max (lx d) (lxs ds)
end
theorem lxs_mem : ∀ {ds : List PyData} {d : PyData}, d ∈ ds → lx d ≤ lxs ds
  | a :: ds, d, h => by
    rw [lxs]
    rcases List.mem_cons.mp h with rfl | h
    · exact Nat.le_max_left _ _
    · exact Nat.le_trans (lxs_mem h) (Nat.le_max_right _ _)
theorem lx_tup {ds : List PyData} {d : PyData} (h : d ∈ ds) : lx d ≤ lx (.tuple ds) := by
  rw [lx]
  exact Nat.le_trans (lxs_mem h) (Nat.le_max_right _ _)
theorem lx_len (ds : List PyData) : ds.length ≤ lx (.tuple ds) := by
  rw [lx]
  exact Nat.le_max_left _ _
/-! ### instructions are trees -/
theorem DdAll.length {K : PySem.W.Frag} {H : Hp} : ∀ {vs : List V} {ds : List PyData}, DdAll K H vs ds → vs.length = ds.length
  | _, _, .nil => rfl
  | _, _, .cons _ t => by rw [List.length_cons, List.length_cons, DdAll.length t]
theorem DdAll.get {K : PySem.W.Frag} {H : Hp} : ∀ {vs : List V} {ds : List PyData} {i : Nat} {v : V}, DdAll K H vs ds → vs[i]? = some v → ∃ d, ds[i]? = some d ∧ Dd K H v d
  | _, _, 0, _, .cons h _, e => by
    cases e
    exact ⟨_, rfl, h⟩
  | _, _, i + 1, _, .cons _ t, e => DdAll.get (i := i) t e
theorem isBd_int {lo hi : Int} {d : PyData} (h : isBd lo hi d = true) : ∃ i, d = .int i ∧ lo ≤ i ∧ i ≤ hi := by
  cases d with
  | int i =>
    have h : (decide (lo ≤ i) && decide (i ≤ hi)) = true := h
    rw [Bool.and_eq_true] at h
    exact ⟨i, rfl, of_decide_eq_true h.1, of_decide_eq_true h.2⟩
  | _ => cases h
theorem ints_of : ∀ {ds : List PyData} {lo hi : Int}, ds.all (isBd lo hi) = true → ∃ as : List Int, ds = as.map .int
  | [], _, _, _ => ⟨[], rfl⟩
  | d :: ds, lo, hi, h => by
    rw [List.all_cons, Bool.and_eq_true] at h
    obtain ⟨i, rfl, _⟩ := isBd_int h.1
    obtain ⟨as, rfl⟩ := ints_of h.2
    exact ⟨i :: as, rfl⟩
theorem dd_ints {K : PySem.W.Frag} {H : Hp} : ∀ {vs : List V} {as : List Int}, DdAll K H vs (as.map .int) → vs = as.map V.int
  | _, [], h => by
    cases h
    rfl
  | _, a :: as, h => by
    cases h with
    | cons h t =>
      cases h
      rw [dd_ints t]
      rfl
/-! ### t == (), whatever t holds -/
def rEq0 (K : PySem.W.Frag) : R2 := fun x y H Q => ∃ (a b : Addr) (xs : List V), x = .ref a ∧ y = .ref b ∧ SqT K H a xs ∧ SqT K H b [] ∧ Q (.bl xs.isEmpty) H
theorem op_eq0 {X : Cx} (hu : X.A.units + 64 < cLine) : OpR X (compareOp .Eq) (rEq0 X.K) := by
  intro pins s σ H x y v u Q I rx ry h
  obtain ⟨a, b, xs, rfl, rfl, sa, sb, q⟩ := h
  cases rx
  cases ry
  obtain ⟨its, r, p, _⟩ := I.tuple sa
  obtain ⟨its2, r2, p2, _⟩ := I.tuple sb
  cases r2
  refine SeqAt.eq_tupleAt (e := fun _ => true) (show s.heap.IsTuple a its.toArray from p) (show s.heap.IsTuple b ([] : List Value).toArray from p2) (by omega) (fun j h1 h2 => absurd h2 (Nat.not_lt_zero _)) ⟨.bl _, H, I, rfl, ?_⟩
  have e : ((List.range (min its.toArray.size ([] : List Value).toArray.size)).all (fun _ => true) && its.toArray.size == ([] : List Value).toArray.size) = xs.isEmpty := by
    rw [List.size_toArray, ← r.length]
    cases xs with
    | nil => rfl
    | cons x xs =>
      rw [List.length_cons]
      simp
  rw [e]
  exact q
end Lj
set_option Elab.async false
set_option linter.all false
set_option maxRecDepth 100000
set_option maxHeartbeats 2000000
/-! # errors of the program's own: __init__ says super().__init__(text), then stores one attribute -/
namespace Lj
open PySem PySem.W PySem.Calls PyProof.Rows PySem.HandSPX
/-! ### the text of __init__ -/
def eA (f : Str) (p1 p2 : Pos) : Arguments := { posonlyargs := [], args := [{ arg := "self", annotation := none, pos := p1 }, { arg := f, annotation := none, pos := p2 }], vararg := none, kwonlyargs := [], kw_defaults := [], kwarg := none, defaults := [] }
def eB (f m : Str) (p1 p2 p3 p4 p5 p6 q1 q2 q3 q4 : Pos) : List Stmt :=
  [.Expr (.Call (.Attribute (.Call (.Name "super" p1) [] [] p2) "__init__" p3) [.Constant (.str m) 0 p4] [] p5) p6, .Assign [.Attribute (.Name "self" q1) f q2] (.Name f q3) q4]
def eS (f : Str) : Scope := { kind := .function, names := [(PySem.Str.ofString "self", .local), (f, .local), (PySem.Str.ofString "__class__", .free), (PySem.Str.ofString "super", .globalImplicit)], isGenerator := false, isCoroutine := false, more := [] }
/-- a name that is none of the others in __init__ -/
structure Nm (f : Str) : Prop where
  s : (f == ("self" : Str)) = false
  c : (f == ("__class__" : Str)) = false
  u : (f == ("super" : Str)) = false
  d : (f == ("__debug__" : Str)) = false
  bd : ∀ (qual : Str) (p1 p2 : Pos) (b : List Stmt) (doc pm : Value) (an : Option Addr) (cdv ct : Value) (cc : Addr) (u v : Value), bindArgs (ksFn "__init__" qual (eA f p1 p2) b (eS f) .none .none doc pm an cdv ct cc) ⟨[u, v], []⟩ = pure [(("self" : Str), u), (f, v)]
  bk : ∀ (qual : Str) (p1 p2 : Pos) (b : List Stmt) (doc pm : Value) (an : Option Addr) (cdv ct : Value) (cc : Addr) (u v : Value), bindArgs (ksFn "__init__" qual (eA f p1 p2) b (eS f) .none .none doc pm an cdv ct cc) ⟨[u], [(f, v)]⟩ = pure [(("self" : Str), u), (f, v)]
theorem ev_super (qual m : Str) (sc : Scope) (L a cc : Addr) (cd : Value) (p3 p4 p5 p6 p7 : Pos) (h : (p5.endLine == p7.line) = true) : ∃ pl : Sem Bool, eval (.Call (.Attribute (.Call (.Name "super" p3) [] [] p4) "__init__" p5) [.Constant (.str m) 0 p6] [] p7) (ksEnv qual sc L a cd cc) = (do
      let ov ← attributeBase (.Call (.Name "super" p3) [] [] p4) "__init__" (ksEnv qual sc L a cd cc) (eval (.Call (.Name "super" p3) [] [] p4) (ksEnv qual sc L a cd cc))
      standAt p5.atName
      let (g, first) ← holding [ov] (getMethod ov "__init__" pl)
      callWith p7 g first (backTo p7 (starEach [.Constant (.str m) 0 p6] (ksEnv qual sc L a cd cc))) []) := by
  refine ⟨(do return (← importBound (.Call (.Name "super" p3) [] [] p4) (ksEnv qual sc L a cd cc)).getD true), ?_⟩
  show (do
    let ov ← attributeBase (.Call (.Name "super" p3) [] [] p4) "__init__" (ksEnv qual sc L a cd cc) (eval (.Call (.Name "super" p3) [] [] p4) (ksEnv qual sc L a cd cc))
    standAt p5.atName
    methodCall (.Call (.Name "super" p3) [] [] p4) "__init__" p5 p7 (ksEnv qual sc L a cd cc) ov 1 (backTo p7 (starEach [.Constant (.str m) 0 p6] (ksEnv qual sc L a cd cc))) (backToKw p7 (keywordEach [] (ksEnv qual sc L a cd cc)))) = _
  congr 1; funext ov; congr 1; funext u
  unfold methodCall methodCallPos
  simp only [h, Bool.or_true, if_true, pure_bind]
  rfl
theorem nm_line : Nm "line" := ⟨by decide +kernel, by decide +kernel, by decide +kernel, by decide +kernel, fun _ _ _ _ _ _ _ _ _ _ _ _ => rfl, fun _ _ _ _ _ _ _ _ _ _ _ _ => rfl⟩
/-- what the written part says of the error x, at C, and of its __init__, at fI -/
structure ErrTxt (P : Program) (K : Frag) (mg : Str → Option Value) (x f : Str) (C fI : Addr) : Prop where
  nm : Nm f
  gC : mg x = some (.ref C)
  cls : ∃ nm q N bs bm sn sub ab col dd k0 k1 k2 k3 k5, K.lookup C = some (excClassObj nm q C N bs bm true sn sub ab col dd k0 k1 k2 k3 k5 "ValueError.__new__") ∧ refsVE bm = true
  sa : findIn K (.ref C) "__setattr__" = some (some (.builtin "object.__setattr__"))
  ga : findIn K (.ref C) "__getattribute__" = some (some (.builtin "BaseException.__getattribute__"))
  gg : findIn K (.ref C) "__getattr__" = some none
  noN : findIn K (.ref C) f = some none
  iC : findIn K (.ref C) "__init__" = some (some (.ref fI))
  tC : typeIn K (.ref fI) = some (.type "function")
  kC : keepIn K (.ref C) = true
  exC : subIn K (.ref C) (.type "BaseException") = some true
  veC : subIn K (.ref C) (.type "ValueError") = some true
  tyC : typeIn K (.ref C) = some (.type "type")
  hdC : hasDictIn K C = true
  mrC : mroIn K C (.ref C) = some true
  suC : ks_superIn K C C "__init__" = some (some (.builtin "ValueError.__init__"))
  op : nsIn K cStatics "thirdparty.any" = some none
  gS : mg "super" = none
  top : (P.main.scope.names.lookup ("super" : Str)).isSome = false
  fn : ∃ (oc : Value) (od : Option Addr) (qual m : Str) (doc pm : Value) (an : Option Addr) (cda cc : Addr) (ct : Value) (osl : Array (Option Value)) (p1 p2 p3 p4 p5 p6 p7 p8 q1 q2 q3 q4 : Pos)
    (ccl : Value) (cdd : Option Addr) (vs : Array Value) (ccs : Array (Option Value)) (file : Str) (tf : Tok) (cl : Value) (cld : Option Addr) (csl : Array (Option Value)),
    K.lookup fI = some ⟨oc, od, .func (ksFn "__init__" qual (eA f p1 p2) (eB f m p3 p4 p5 p6 p7 p8 q1 q2 q3 q4) (eS f) .none .none doc pm an (.ref cda) ct cc), osl⟩ ∧ codeIn K (.ref cda) qual = true ∧
      K.lookup cda = some ⟨ccl, cdd, .fields vs, ccs⟩ ∧ vs[2]? = some (.str file tf) ∧ ((P.main.file : Str) == file) = true ∧ (p5.endLine == p7.line) = true ∧ K.lookup cc = some ⟨cl, cld, .cell (some (.ref C)), csl⟩
theorem one_size (v : Value) : [v].length ≤ sizeLine := by
  rw [sizeLine_eq]
  exact (by decide : 1 ≤ 16777216)
/-- what __init__ leaves of a fresh exception at x -/
structure InitEnd (f : Str) (h h' : Heap) (x C dx : Addr) (v : Value) : Prop where
  keep : ∀ b o, b ≠ x → h.get? b = some o → h'.get? b = some o
  obj : ∃ t1 : Addr, h'.get? x = some { cls := .ref C, dict := some dx, data := .fields #[.ref t1, .none, .none, .none, .bool false, .none] }
  dbig : h.objs.size ≤ dx
  dne : dx ≠ x
  ns : h'.Ns1 dx (fun y => if y = f then some v else none)
/-- a made error -/
structure OwnMade (f : Str) (h h' : Heap) (e C d : Addr) (v : Value) : Prop where
  keep : ∀ b o, h.get? b = some o → h'.get? b = some o
  new : h.objs.size ≤ e
  obj : ∃ oe vs, h'.get? e = some oe ∧ oe.cls = .ref C ∧ oe.dict = some d ∧ oe.data = .fields vs ∧ vs[1]? = some .none
  dbig : h.objs.size ≤ d
  dne : d ≠ e
  ns : h'.Ns1 d (fun y => if y = f then some v else none)
section
variable {prog : Program} {w : World} {A : Around} {E : Value → Shared → Prop} {R : Result → Shared → Prop} {s : Shared} {K : Frag} {mg mb : Str → Option Value} {x f : Str} {C fI : Addr}
theorem lk_self {f : Str} : (eS f).names.lookup ("self" : Str) = some .local := rfl
theorem lk_f (n : Nm f) : (eS f).names.lookup f = some .local := by
  have h := n.s
  show List.lookup f [(PySem.Str.ofString "self", NameKind.local), (f, .local), (PySem.Str.ofString "__class__", .free), (PySem.Str.ofString "super", .globalImplicit)] = _
  rw [List.lookup_cons]
  have h2 : (f == PySem.Str.ofString "self") = false := h
  rw [h2, List.lookup_cons, beq_self_eq_true]
theorem flip {a b : Str} (h : (a == b) = false) : (b == a) = false := by
  cases e : b == a with
  | false => rfl
  | true =>
    have := beq_iff_eq.mp e
    rw [this, beq_self_eq_true] at h
    cases h
theorem lk_class (n : Nm f) : (eS f).names.lookup ("__class__" : Str) = some .free := by
  have h := flip n.c
  show List.lookup (PySem.Str.ofString "__class__") [(PySem.Str.ofString "self", NameKind.local), (f, .local), (PySem.Str.ofString "__class__", .free), (PySem.Str.ofString "super", .globalImplicit)] = _
  rw [List.lookup_cons, show (PySem.Str.ofString "__class__" == PySem.Str.ofString "self") = false by decide +kernel, List.lookup_cons, show (PySem.Str.ofString "__class__" == f) = false from h, List.lookup_cons, beq_self_eq_true]
theorem lk_super (n : Nm f) : (eS f).names.lookup ("super" : Str) = some .globalImplicit := by
  have h := flip n.u
  show List.lookup (PySem.Str.ofString "super") [(PySem.Str.ofString "self", NameKind.local), (f, .local), (PySem.Str.ofString "__class__", .free), (PySem.Str.ofString "super", .globalImplicit)] = _
  rw [List.lookup_cons, show (PySem.Str.ofString "super" == PySem.Str.ofString "self") = false by decide +kernel, List.lookup_cons, show (PySem.Str.ofString "super" == f) = false from h, List.lookup_cons, show (PySem.Str.ofString "super" == PySem.Str.ofString "__class__") = false by decide +kernel, List.lookup_cons, beq_self_eq_true]
theorem err_initA (T : ErrTxt prog K mg x f C fI) {e t0 : Addr} {v : Value} {as : Args} (hb : ∀ (qual : Str) (p1 p2 : Pos) (b : List Stmt) (doc pm : Value) (an : Option Addr) (cdv ct : Value) (cc : Addr), bindArgs (ksFn "__init__" qual (eA f p1 p2) b (eS f) .none .none doc pm an cdv ct cc) as = pure [(("self" : Str), .ref e), (f, v)]) (X : K.In s.heap) (hlim : s.heap.NoLimit) (hG : s.heap.Ns mainGlobals mg) (hB : s.heap.Ns builtinsNs mb) (hmb : ∀ x : Str, x ≠ "__name__" → mb x = bootBuiltins x)
    (hx : s.heap.get? e = some (excO C t0)) (hnx : K.lookup e = none) (hroom : A.depth < recursionLimit)
    (hq : ∀ h' tk dx, InitEnd f s.heap h' e C dx v → R (.ok (.ret .none)) { s with heap := h', toks := tk }) :
    codeAny (model prog w) A (.call (.ref fI) as) R s := by
  obtain ⟨oc, od, qual, m, doc, pm, an, cda, cc, ct, osl, p1, p2, p3, p4, p5, p6, p7, p8, q1, q2, q3, q4, ccl, cdd, vs, ccs, file, tf, cl, cld, csl, ho, hcd, hcode, hvs, hfile, hpos, hcell⟩ := T.fn
  obtain ⟨nm, q, N, bs, bm, sn, sub, ab, col, dd, k0, k1, k2, k3, k5, hC, hbm⟩ := T.cls
  have hcl : clsIn K C = some { name := nm, bases := bs, mro := .ref C :: bm, ns := N, qualname := q, hasDict := true, slotNames := sn, subclasses := sub, abstract := ab, collection := col, hasDel := false } := by unfold clsIn; rw [hC] <;> rfl
  have lf := lk_f T.nm
  have lc := lk_class T.nm
  have ls := lk_super T.nm
  have n := T.nm
  refine ks_codeAny_call_defAt (fd := ksFn "__init__" qual (eA f p1 p2) (eB f m p3 p4 p5 p6 p7 p8 q1 q2 q3 q4) (eS f) .none .none doc pm an (.ref cda) ct cc) (body := eB f m p3 p4 p5 p6 p7 p8 q1 q2 q3 q4) (binds := [("self", .ref e), (f, v)]) hroom (X _ _ ho) rfl hlim (codeRec_of X hcd) rfl
    (BindsTo.of_eq (hb _ _ _ _ _ _ _ _ _ _)) (fun y hy => ?_) (fun y hy => ?_) (fun h₁ hns hk₁ => ?_) rfl rfl rfl
  · rcases List.mem_cons.mp hy with rfl | hy
    · intro z; cases z
    rcases List.mem_cons.mp hy with rfl | hy
    · intro z; cases z
    rcases List.mem_cons.mp hy with rfl | hy
    · intro z; cases z
    rcases List.mem_cons.mp hy with rfl | hy
    · intro z; cases z
    cases hy
  · rcases List.mem_cons.mp hy with rfl | hy
    · exact lk_self
    rcases List.mem_cons.mp hy with rfl | hy
    · exact lf
    cases hy
  have hL : (fun y => ([("self", .ref e), (f, v)] : List (Str × Value)).reverse.lookup y) ("self" : Str) = some (.ref e) := by
    show List.lookup _ [(f, v), (("self" : Str), Value.ref e)] = _
    rw [List.lookup_cons, flip n.s, List.lookup_cons, beq_self_eq_true]
  have hV : (fun y => ([("self", .ref e), (f, v)] : List (Str × Value)).reverse.lookup y) f = some v := by
    show List.lookup _ [(f, v), (("self" : Str), Value.ref e)] = _
    rw [List.lookup_cons, beq_self_eq_true]
  obtain ⟨hp, g, d, tk, os⟩ := s
  have hx₁ := hk₁ _ _ hx
  have X₁ : K.In h₁ := X.keeps hk₁
  have Le : e ≠ hp.objs.size := Nat.ne_of_lt (Heap.lt_size hx)
  have I₁ : InstAt h₁ e (excO C t0) C none := ⟨hx₁, rfl, rfl, trivial⟩
  -- super().__init__(m)
  show PySem.wpAt _ _ _ (execs [_, _] (ksEnv qual (eS f) hp.objs.size fI (.ref cda) cc)) _ _ _
  obtain ⟨pl, ev⟩ := ev_super qual m (eS f) hp.objs.size fI cc (.ref cda) p3 p4 p5 p6 p7 hpos
  refine ks_wpAt_execs_cons (ks_wpAt_Expr_any (ks_wpAt_MethodCall (pl := pl) ?_ ev) rfl rfl)
  refine ks_wpAt_super_base (env := ksEnv qual (eS f) hp.objs.size fI (.ref cda) cc) ls lc (by decide) rfl (X₁ _ _ ho) rfl rfl rfl (X₁ _ _ hcode) rfl hvs hfile T.top ?_
  refine ks_loadName_global rfl ls (loadGlobal_builtin (env := ksEnv qual (eS f) hp.objs.size fI (.ref cda) cc) (hG.keeps hk₁) T.gS (hB.keeps hk₁) ((hmb _ (by decide +kernel)).trans (by first | boot_by_name | rfl | kernel_rfl)) ⟨rfl, ?_⟩)
  refine wpAny_loadName_free rfl lc rfl ⟨_, X₁ _ _ hcell, rfl⟩ ?_
  refine wpAny_loadName_local rfl lk_self hns hL ?_
  refine ks_wpAny_isType_cls (X₁ _ _ hC) rfl ⟨rfl, ?_⟩
  refine ks_wpAny_call_super (X₁ _ _ hC) rfl hx₁ rfl (fun c z => by cases z) (looks_mroIn X₁ T.mrC) (fun h₂ hso k₂ => ?_)
  have X₂ : K.In h₂ := X₁.keeps k₂
  have hx₂ := k₂ _ _ hx₁
  have I₂ : InstAt h₂ e (excO C t0) C none := ⟨hx₂, rfl, rfl, trivial⟩
  have hsu : alongIn K "__init__" (((Value.ref C :: bm).dropWhile (· != .ref C)).drop 1) = some (some (.builtin "ValueError.__init__")) := by
    have z := T.suC
    unfold ks_superIn at z
    rw [hcl] at z
    exact z
  refine kxs_getMethod kxs_ValueError hso (looks_opaque X₂ T.op) (l₀ := .ref C :: bm) ((looks_clsIn X₂ hcl).andThen .now) rfl X₂ hsu (I₂.type.andThen (looks_subIn X₂ T.veC)) (ks_ne X₂ I₂ hcl) (by decide +kernel) ?_
  have hmw : (h₂.push (kxs_mw "ValueError.__init__" e)).get? h₂.objs.size = some (kxs_mw "ValueError.__init__" e) := Heap.get?_push_at rfl rfl
  have k₃ : ∀ b o, h₂.get? b = some o → (h₂.push (kxs_mw "ValueError.__init__" e)).get? b = some o := fun b o z => Heap.get?_push_of_some _ z
  generalize h₂.push (kxs_mw "ValueError.__init__" e) = h₃ at hmw k₃
  have X₃ : K.In h₃ := X₂.keeps k₃
  have hx₃ := k₃ _ _ hx₂
  refine kxs_callWith (i := "ValueError.__init__") (x := e) (by rfl) ?_
  refine evalArgs_plain (spliced_cons (Constant_str (k := 0) (pos := p6) ?_))
  refine spliced_nil ⟨hmw, ?_⟩
  show wpAny _ _ (call (.ref h₂.objs.size) [Value.str m _] []) _ _ _
  refine wpAny_call (codeAny_of_tree ?_)
  show wpAny _ _ (callAny (.ref h₂.objs.size) ⟨[Value.str m _], []⟩) _ _ _
  simp only [callAny]
  refine wpAny_bind (wpAny_load hmw ?_)
  simp only [kxs_mw, show (Value.type "method-wrapper" == Value.type "method" || Value.type "method-wrapper" == Value.type "builtin_function_or_method" || Value.type "method-wrapper" == Value.type "method-wrapper") = true by decide, if_true]
  refine KFB.if_so (by decide) ?_
  refine wpAny_bind (check_bound_init F.excBase_ValueError.toExcCallFacts (X₃ _ _ hC) hx₃ rfl ?_)
  refine wpAny_bind (wpAny_pure (wpAny_pure ?_))
  refine ⟨plainId_quiet F.excBase_ValueError.init.plain _, codeAny_builtin F.excBase_ValueError.initEntry ?_⟩
  refine exc_init_tree (cls := .ref C) (t0 := t0) (dv := none) (c2 := .none) (c3 := .none) (b4 := .bool false) hx₃ (one_size _) fun h₄ k₄ hx₄ _ => ?_
  -- self.f = f
  have k13 : ∀ b o, h₁.get? b = some o → h₃.get? b = some o := fun b o z => k₃ b o (k₂ b o z)
  have X₄ : K.In h₄ := fun b o z => k₄ b o (fun y => by rw [y, hnx] at z; cases z) (X₃ b o z)
  have hns₄ : h₄.Ns hp.objs.size (fun y => ([("self", .ref e), (f, v)] : List (Str × Value)).reverse.lookup y) := hns.at fun o z => k₄ _ o (Ne.symm Le) (k13 _ o z)
  show PySem.wpAt _ _ _ (execs [_] (ksEnv qual (eS f) hp.objs.size fI (.ref cda) cc)) _ _ _
  refine ks_wpAt_execs_cons (ks_wpAt_Assign_Attr (PySem.wpAt_of_wpAny ?_) rfl)
  refine wpAny_Name (wpAny_loadName_local rfl lf hns₄ hV ?_) n.d
  refine wpAny_Name (wpAny_loadName_local rfl lk_self hns₄ hL ?_) (by decide +kernel)
  refine set_plain X₄ (ox := excO C _) (od := none) ⟨hx₄, rfl, rfl, trivial⟩ T.sa ?_
  refine exc_osa X₄ hx₄ hcl (show refsVE (.ref C :: bm) = true from hbm) rfl T.noN (fun h₅ tk₅ dx k₅ dn dne hx₅ hn₅ => ?_)
  refine PySem.wpAt_of_wpAny (wpAny_execs_nil (hq h₅ tk₅ dx ⟨fun b o hb z => k₅ b o hb (k₄ b o hb (k13 b o (hk₁ b o z))), ⟨_, hx₅⟩, ?_, dne, hn₅⟩))
  have z : hp.objs.size < h₄.objs.size := hns₄.lt
  exact Nat.le_of_lt (Nat.lt_of_lt_of_le z dn)
theorem err_made (T : ErrTxt prog K mg x f C fI) {v : Value} (X : K.In s.heap) (hlim : s.heap.NoLimit) (hG : s.heap.Ns mainGlobals mg) (hB : s.heap.Ns builtinsNs mb) (hmb : ∀ x : Str, x ≠ "__name__" → mb x = bootBuiltins x) (hroom : A.depth + 1 < recursionLimit)
    (hq : ∀ h' tk e d, OwnMade f s.heap h' e C d v → R (.ok (.ret (.ref e))) { s with heap := h', toks := tk }) :
    codeAny (model prog w) A (.call (.ref C) ⟨[v], []⟩) R s := by
  obtain ⟨nm, q, N, bs, bm, sn, sub, ab, col, dd, k0, k1, k2, k3, k5, hC, hbm⟩ := T.cls
  obtain ⟨hp, g, dr, tk, os⟩ := s
  have k : ∀ b o, hp.get? b = some o → ((hp.push (kdv_tup [v])).push (excO C hp.objs.size)).get? b = some o := fun b o e => Heap.get?_push_of_some _ (Heap.get?_push_of_some _ e)
  have hget : ((hp.push (kdv_tup [v])).push (excO C hp.objs.size)).get? (hp.objs.size + 1) = some (excO C hp.objs.size) := by heap_get
  have hnx : K.lookup (hp.objs.size + 1) = none := by
    cases e : K.lookup (hp.objs.size + 1) with
    | none => rfl
    | some o =>
      have z : hp.get? (hp.objs.size + 1) = some o := X _ _ e
      exact absurd (Nat.lt_of_succ_lt (Heap.lt_size z)) (Nat.lt_irrefl _)
  refine call_own F.excBase_ValueError (fun X => refsVE_contains X bm hbm) (X _ _ hC) (looks_findIn X T.iC) (fun self => bind_fn X self T.tC) (one_size v) ?_
  refine err_initA (s := ⟨(hp.push (kdv_tup [v])).push (excO C hp.objs.size), g, dr, tk, os⟩) T (fun _ _ _ _ _ _ _ _ _ _ => T.nm.bd _ _ _ _ _ _ _ _ _ _ _ _) (X.keeps k) (hlim.keeps k) (hG.keeps k) (hB.keeps k) hmb hget hnx ?_ fun h' tk' dx ⟨k', hx, dn, dne, hns⟩ => ?_
  · show A.depth + 1 < recursionLimit
    exact hroom
  · have old : ∀ b o, hp.get? b = some o → h'.get? b = some o := fun b o e => k' b o (Nat.ne_of_lt (Nat.lt_succ_of_lt (Heap.lt_size e))) (k b o e)
    have z : hp.objs.size + 1 + 1 ≤ dx := by
      first
        | (simpa only [Heap.size_push] using dn)
        | exact dn
        | (have q := dn; rw [Heap.size_push, Heap.size_push] at q; exact q)
    obtain ⟨t1, hx⟩ := hx
    exact ⟨rfl, hq h' tk' (hp.objs.size + 1) dx ⟨old, Nat.le_succ _, ⟨_, _, hx, rfl, rfl, rfl, rfl⟩, Nat.le_trans (Nat.le_trans (Nat.le_succ _) (Nat.le_succ _)) z, dne, hns⟩⟩
end
end Lj
set_option Elab.async false
set_option linter.all false
set_option maxRecDepth 100000
set_option maxHeartbeats 2000000
/-! # errors: made, raised, caught and kept as a value, asked -/
namespace Lj
open PySem PySem.Spec PyProof.Rows L2
/-! ### promises of defs that may raise, where nothing is being shown -/
structure FnE (P : Program) (w : World) (K : PySem.W.Frag) (mg : Str → Option Value) (base : Heap) (k : Nat) (f : Addr) (fd : FuncData) (ps : List Str) (sp : Sp) : Prop where
  len : ∀ vs H Q E, sp vs H Q E → vs.length = ps.length
  run : ∀ (A : Around) (out : List Env) (s : Shared) (H : Hp) (as : Args) (us : List Value) (vs : List V) (Q : VK) (E : XK), A.guards = some [] → Room k A → Env0 P w K mg base A out s H →
    BindsTo s fd as (ps.zip us) → Vals vs us → sp vs H Q E → codeAny (model P w) A (.call (.ref f) as) (CR (L2.CX P w) out P w H s Q E) s
section
variable {P : Program} {w : World} {K : PySem.W.Frag} {mg : Str → Option Value} {base : Heap} {j k : Nat} {f : Addr} {fd : FuncData} {ps : List Str} {sp sp' : Sp}
theorem FnE.up (F : FnE P w K mg base j f fd ps sp) (h : j ≤ k) : FnE P w K mg base k f fd ps sp := ⟨F.len, fun A out s H as us vs Q E g r => F.run A out s H as us vs Q E g (r.mono h)⟩
theorem FnE.weak (F : FnE P w K mg base k f fd ps sp) (h : ∀ vs H Q E, sp' vs H Q E → sp vs H Q E) : FnE P w K mg base k f fd ps sp' :=
  ⟨fun vs H Q E q => F.len vs H Q E (h _ _ _ _ q), fun A out s H as us vs Q E g r e b v q => F.run A out s H as us vs Q E g r e b v (h _ _ _ _ q)⟩
/-- by the def's body -/
theorem FnE.body {x qual : Str} {st : Stmt} {N : List Str} (F : Fun K x qual st f fd) (S : FnScope N ps (defScope st)) (len : ∀ vs H Q E, sp vs H Q E → vs.length = ps.length)
    (hb : ∀ (cdv : Value) (A : Around) (out : List Env) (s : Shared) (H : Hp) (vs : List V) (Q : VK) (E : XK), A.guards = some [] → Room k (A.deeper (envOfC qual (defScope st) s.heap.objs.size f cdv)) → sp vs H Q E →
      ∃ t, PSs (cxOf (L2.CX P w) P w K mg base N qual (defScope st) f cdv A out s H E) (defBody st) t ∧ t { nx := fun _ H' => Q .non H', rt := Q } (start N vs) H) : FnE P w K mg base (k + 1) f fd ps sp := by
  obtain ⟨c0, c1, c2, c3, c4, c5, cd, c6, c7, rfl, look, code⟩ := F.ex
  refine ⟨len, fun A out s H as us vs Q E hg room env bind vals want => ?_⟩
  have ln := len _ _ _ _ want
  have old : ∀ b o, base.get? b = some o → s.heap.get? b = some o := fun b o e => (env.bs b o e).1
  have here : K.In s.heap := env.mod.kin.keeps old
  refine codeAny_call_function room.depth (here _ _ look) rfl S.co S.gen rfl (PySem.W.codeRec_of here code) (bind _ _ _ _ ?_)
  refine wpAny_newFunctionEnv_cells S.kind (fun ⟨n, v⟩ m => (S.par n (List.of_mem_zip m).1).elim .inl fun c => .inr ⟨c, PySem.W.cellsFrom_some _ _ _ (.inl c)⟩) fun en he s1 x => ?_
  subst he
  refine ⟨(env.mod.nolimit.keeps old).keeps x.toInCall.keep, codeAny_func ?_⟩
  obtain ⟨t, rule, holds⟩ := hb cd A out s H vs Q E hg (room.deeper _) want
  have start0 := inv_start (CX := L2.CX P w) (E := E) S room.hd env ln vals x
  refine wpAny_mono (rule.run [] s1 (start N vs) H _ start0 holds) (fun r s' z => ?_) fun _ _ z => z
  match r, z with
  | .ret u, ⟨v, σ', H', J, rv, q⟩ => exact ⟨v, H', J.os, J.bare, J.base, J.hok, rv, q⟩
  | .next, ⟨σ', H', J, q⟩ => exact ⟨.non, H', J.os, J.bare, J.base, J.hok, rfl, q⟩
  | .brk, ⟨_, _, _, q⟩ => exact False.elim q
  | .cont, ⟨_, _, _, q⟩ => exact False.elim q
end
/-- where a def that may raise stands, under the name x, with its promise -/
structure CalE (P : Program) (w : World) (K : PySem.W.Frag) (mg : Str → Option Value) (base : Heap) (k : Nat) (x : Str) (ps : List Str) (f : Addr) (fd : FuncData) (sp : Sp) : Prop where
  ok : FnE P w K mg base k f fd ps sp
  kp : PySem.W.keepIn K (.ref f) = true
  b : Binds K fd ps []
  g : mg x = some (.ref f)
  lk : ∃ oc od osl, K.lookup f = some ⟨oc, od, .func fd, osl⟩
def HasE (P : Program) (w : World) (K : PySem.W.Frag) (mg : Str → Option Value) (base : Heap) (k : Nat) (x : Str) (ps : List Str) (sp : Sp) : Prop := ∃ f fd, CalE P w K mg base k x ps f fd sp
section
variable {P : Program} {w : World} {K : PySem.W.Frag} {mg : Str → Option Value} {base : Heap} {j k : Nat} {x : Str} {ps : List Str} {sp sp' : Sp}
theorem HasE.up (h : HasE P w K mg base j x ps sp) (l : j ≤ k) : HasE P w K mg base k x ps sp := by
  obtain ⟨f, fd, c⟩ := h
  exact ⟨f, fd, c.ok.up l, c.kp, c.b, c.g, c.lk⟩
theorem HasE.weak (h : HasE P w K mg base k x ps sp) (i : ∀ vs H Q E, sp' vs H Q E → sp vs H Q E) : HasE P w K mg base k x ps sp' := by
  obtain ⟨f, fd, c⟩ := h
  exact ⟨f, fd, c.ok.weak i, c.kp, c.b, c.g, c.lk⟩
theorem HasE.by {st : Stmt} {N : List Str} (F : At K mg x st ps) (S : FnScope N ps (defScope st)) (len : ∀ vs H Q E, sp vs H Q E → vs.length = ps.length)
    (hb : ∀ (f : Addr) (cdv : Value) (A : Around) (out : List Env) (s : Shared) (H : Hp) (vs : List V) (Q : VK) (E : XK), A.guards = some [] → Room k (A.deeper (envOfC x (defScope st) s.heap.objs.size f cdv)) → sp vs H Q E →
      ∃ t, PSs (cxOf (L2.CX P w) P w K mg base N x (defScope st) f cdv A out s H E) (defBody st) t ∧ t { nx := fun _ H' => Q .non H', rt := Q } (start N vs) H) : HasE P w K mg base (k + 1) x ps sp := by
  obtain ⟨f, fd, F, b, g⟩ := F
  exact ⟨f, fd, .body F S len (hb f), F.kp, b, g, fun_lk F⟩
/-- what raises nothing is a promise of both kinds -/
theorem HasE.calm (h : HasE P w K mg base k x ps sp) (i : ∀ vs H Q E, sp' vs H Q E → sp vs H Q E0) : Has P w K mg base k x ps sp' := by
  obtain ⟨f, fd, c⟩ := h
  refine ⟨f, fd, ⟨fun vs H Q E q => c.ok.len vs H Q E0 (i _ _ _ _ q), fun A out s H as us vs Q E g r e b v q => ?_⟩, c.kp, c.b, c.g, c.lk⟩
  refine codeAny_mono (c.ok.run A out s H as us vs Q E0 g r e b v (i _ _ _ _ q)) fun r s' z => ?_
  match r, z with
  | .error _, z =>
    obtain ⟨_, _, _, _, _, _, _, _, _, _, _, _, z⟩ := z
    exact z.elim
  | .ok (.ret _), z => exact z
  | .ok .next, z => exact z.elim
  | .ok .brk, z => exact z.elim
  | .ok .cont, z => exact z.elim
end
section
variable {X : Cx} {k : Nat} {x : Str} {ps ks : List Str} {f : Addr} {fd : FuncData} {sp : Sp} {p pos : Pos} {e : Expr} {es : List Expr} {t : TA} {E : L2.St → XK}
theorem calE_run {pins : List (Addr × Obj)} {σ : L2.St} {H : Hp} {s : Shared} {Q : VK} {us zs : List Value} {vs : List V} {kw : List (Str × Value)} (c : FnE X.prog X.w X.K X.mg X.base k f fd ps sp) (hg : X.A.guards = some []) (hr : Room k X.A) (hx : PassesAt (L2.CX X.prog X.w) X σ (E σ))
    (I : Inv X pins σ H s) (bind : BindsTo s fd ⟨us, kw⟩ (ps.zip zs)) (vals : Vals vs zs) (h : sp vs H Q (E σ)) : wpAny (model X.prog X.w) X.A (call (.ref f) us kw) (EP X pins σ Q) X.xe s := by
  refine wpAny_call (codeAny_mono (c.run X.A X.stack s H ⟨us, kw⟩ zs vs Q (E σ) hg hr I.env0 bind vals h) fun r s' z => ?_)
  match r, z with
  | .error e, z => exact hx pins H s e s' I z
  | .ok (.ret _), z => exact I.after z
  | .ok .next, z => exact z.elim
  | .ok .brk, z => exact z.elim
  | .ok .cont, z => exact z.elim
/-- f(e, ..), which may raise -/
theorem pe_calE (c : CalE X.prog X.w X.K X.mg X.base k x ps f fd sp) (hg : X.A.guards = some []) (hr : Room k X.A) (gl : Gl X x) (hx : ∀ σ, PassesAt (L2.CX X.prog X.w) X σ (E σ)) (ha : PA X (e :: es) t) (hdb : (x == ("__debug__" : Str)) = false := by decide)
    (he : starEach (e :: es) X.env = (false, eval e X.env) :: starEach es X.env := by rfl) (hpl : (backTo pos (starEach es X.env)).any (·.1) = false := by rfl) :
    PE X (.Call (.Name x p) (e :: es) [] pos) (tCallS sp E t) := by
  refine ⟨fun pins s σ H Q I h => wpAny_Call_Name_kw (ld_glob I gl c.g ?_ hdb)⟩
  refine PySem.W.callWith_K (h₀ := X.base) I.ok.mod.kin c.kp (thn (ha.run pos pins s σ H _ I h) fun us s1 ⟨vs, H1, I1, r, q⟩ => ⟨I1.kIn, ?_⟩) he hpl
  have ln : (us ++ []).length = ps.length := by
    rw [List.append_nil, ← r.length]
    exact c.ok.len _ _ _ _ q
  have bd := c.b s1 us I1.kIn ln
  rw [List.append_nil] at bd
  exact calE_run c.ok hg hr (hx σ) I1 bd r q
end
/-! ### an error made, raised -/
section
variable {X : Cx} {C fI : Addr} {x f : Str}
/-- x(e), then raised -/
def tMkErr (f : Str) (C : Addr) (ta : TA) : L2.St → Hp → XK → Prop := fun σ H Q => ta σ H fun vs H1 => ∃ v, vs = [v] ∧ ∀ d, H1 d = none → Q (.ref C) (some d) (upd H1 d (.xd [(f, v)]))
theorem pmk_err {a : Expr} {ta : TA} {p pos : Pos} {k : Nat} (T : ErrTxt X.prog X.K X.mg x f C fI) (hr : Room k X.A) (ha : PA X [a] ta) (hg : Gl X x) (hdb : (x == ("__debug__" : Str)) = false := by decide)
    (he : starEach (a :: []) X.env = (false, eval a X.env) :: starEach [] X.env := by rfl) (hpl : (backTo pos (starEach [] X.env)).any (·.1) = false := by rfl) :
    PMk X (.Call (.Name x p) [a] [] pos) (tMkErr f C ta) := by
  intro pins s σ H Q I h
  refine wpAny_Call_Name_kw (ld_glob I hg T.gC ?_ hdb)
  refine PySem.W.callWith_K (h₀ := X.base) I.ok.mod.kin T.kC (thn (ha.run pos pins s σ H _ I h) fun us s1 hh => ?_) he hpl
  obtain ⟨vs, H1, I1, r1, v, ev, q1⟩ := hh
  subst ev
  refine ⟨I1.kIn, ?_⟩
  cases r1 with
  | cons rv rn =>
    rename_i v' us'
    cases rn
    show wpAny _ _ (call (.ref C) [v']) _ _ _
    have hlim := I1.nolimit
    obtain ⟨mb, hb1, hb2⟩ := I1.mod.blt
    have hG := I1.mod.glob.keeps I1.bk
    have hB := hb1.keeps I1.bk
    obtain ⟨hp, g, dr, tk, os⟩ := s1
    refine wpAny_call (err_made T I1.kIn hlim hG hB hb2 (by have := hr.dp; omega) fun h' tk' e d M => ?_)
    show MkP X pins σ Q (.ref e) ⟨h', g, dr, tk', os⟩
    obtain ⟨oe, fv, hoe, hc, hd, hdat, h1⟩ := M.obj
    have hns := M.ns
    obtain ⟨G', g1, g2⟩ := restrict h' fun b => decide (b ≠ e)
    have gk : ∀ b, b ≠ e → G'.get? b = h'.get? b := fun b hb => g1 b (decide_eq_true hb)
    have ge : G'.get? e = none := g2 e (by simp)
    have old : ∀ b o, hp.get? b = some o → G'.get? b = some o := fun b o q => (gk b (Nat.ne_of_lt (Nat.lt_of_lt_of_le (Heap.lt_size q) M.new))).trans (M.keep b o q)
    have ob : ObjOk X.prog X.w (upd H1 d (.xd [(f, v)])) G' d (.xd [(f, v)]) :=
      ⟨_, hns.at (fun o q => (gk d M.dne).trans q), fun f => relO_put (fs := []) (mA := fun _ => none) rv (fun _ => True.intro) f⟩
    have J : Inv X pins σ (upd H1 d (.xd [(f, v)])) ⟨G', g, dr, tk', os⟩ := I1.laid (t' := tk') old M.dbig ob
    refine ⟨e, oe, fv, ⟨G', g, dr, tk', os⟩, _, .ref C, some d, rfl, J, fun b o q => ?_, ge, hoe, ⟨hc, hd⟩, hdat, h1, ?_, rfl, I1.bare, raises_own T.exC T.tyC, q1 d (I1.hok.fresh M.dbig)⟩
    · by_cases hb : b = e
      · have q' : G'.get? b = some o := q
        rw [hb, ge] at q'; cases q'
      · exact (gk b hb).symm.trans q
    · rw [upd_ne (Ne.symm M.dne)]
      exact I1.hok.fresh M.new
/-- raise x(e) -/
def tRaiseErr (f : Str) (C : Addr) (W : WX) (ta : TA) : TS := fun _ σ H => tMkErr f C ta σ H fun cls d H' => W cls d σ H'
theorem ps_raiseErr {a : Expr} {ta : TA} {W : WX} {p pos pos2 : Pos} {k : Nat} (hc : X.calm = true) (T : ErrTxt X.prog X.K X.mg x f C fI) (hr : Room k X.A) (tk : Takes X W) (ha : PA X [a] ta) (hg : Gl X x) (hdb : (x == ("__debug__" : Str)) = false := by decide)
    (he : starEach (a :: []) X.env = (false, eval a X.env) :: starEach [] X.env := by rfl) (hpl : (backTo pos (starEach [] X.env)).any (·.1) = false := by rfl) :
    PS X (.Raise (some (.Call (.Name x p) [a] [] pos)) none pos2) (tRaiseErr f C W ta) := ps_raise hc tk (pmk_err T hr ha hg hdb he hpl)
end
/-! ### an error as a value -/
/-- at a: an error of the class cls, its dict d -/
def exv (a : Addr) (cls : Value) (d : Option Addr) : HO := .ext fun h => ∃ (oe : Obj) (vs : Array Value), h.get? a = some oe ∧ Zc cls d oe ∧ oe.data = .fields vs
theorem exv_ok {P : Program} {w : World} {H : Hp} {h : Heap} {a : Addr} {cls : Value} {d : Option Addr} {oe : Obj} {vs : Array Value} (e : h.get? a = some oe) (z : Zc cls d oe) (hd : oe.data = .fields vs) : ObjOk P w H h a (exv a cls d) :=
  ⟨⟨oe, vs, e, z, hd⟩, ⟨oe, e⟩, fun _ _ ⟨o, v, q, r⟩ k => ⟨o, v, k o q, r⟩⟩
theorem exv_at {P : Program} {w : World} {H : Hp} {h : Heap} {a : Addr} {cls : Value} {d : Option Addr} (hok : HOk P w H h) (he : H a = some (exv a cls d)) : ∃ (oe : Obj) (vs : Array Value), h.get? a = some oe ∧ Zc cls d oe ∧ oe.data = .fields vs := by
  have x : ObjOk P w H h a (.ext fun h => ∃ (oe : Obj) (vs : Array Value), h.get? a = some oe ∧ Zc cls d oe ∧ oe.data = .fields vs) := hok a _ he
  exact x.1
section
variable {X : Cx} {pins : List (Addr × Obj)} {σ : L2.St} {H : Hp} {s : Shared}
/-- an object that was not there at the entry, tracked from now on -/
theorem track {a : Addr} {o : HO} (I : Inv X pins σ H s) (n0 : X.s_0.heap.get? a = none) (hn : H a = none) (nL : a ≠ X.env.locals) (nC : ∀ x c, X.env.cells.lookup x = some c → c ≠ a) (np : ∀ p ∈ X.pn ++ pins, p.1 ≠ a)
    (new : ObjOk X.prog X.w (upd H a o) s.heap a o) : Inv X pins σ (upd H a o) s := by
  refine ⟨I.ok, I.os, I.bare, ⟨I.base.keep, I.base.slot, fun b u q n hx => ?_, I.base.there, fun b xs q => ?_, fun b u v q => ?_, fun b ps q => ?_⟩, I.loc, I.cell, ?_, fun x c e => ?_, fun p hp => ?_, fun b u e => ?_, I.len⟩
  · rw [upd_ne (fun z => by rw [z, n0] at q; cases q)]
    exact I.base.free b u q n hx
  · have q' := I.base.tups b xs q
    rw [upd_ne (ne_of_none q' hn)]
    exact q'
  · have q' := I.base.frzs b u v q
    rw [upd_ne (ne_of_none q' hn)]
    exact q'
  · obtain ⟨m, q'⟩ := I.base.tbls b ps q
    exact ⟨m, by rw [upd_ne (ne_of_none q' hn)]; exact q'⟩
  · rw [upd_ne (Ne.symm nL)]
    exact I.free
  · rw [upd_ne (nC x c e)]
    exact I.freeC x c e
  · obtain ⟨e, n, ne, nf, d⟩ := I.pin p hp
    exact ⟨e, by rw [upd_ne (np p hp)]; exact n, ne, nf, d⟩
  · by_cases hb : b = a
    · subst hb
      rw [upd_same] at e
      cases e
      exact new
    · rw [upd_ne hb] at e
      exact (I.hok b u e).stay (fun _ _ _ q => q) (fun c q => by rw [upd_ne (ne_of_none q hn)]; exact q) fun c xs q => by rw [upd_ne (ne_of_none q hn)]; exact q
end
/-! ### try: body, except x as n: suite; the error is kept as a value -/
/-- what the clause wishes of an error of the body: slot i is n's -/
def wKeep (K : PySem.W.Frag) (c : Value) (i : Nat) (ts : TS) (Wout : WX) (D : Ends) : WX := fun cls d σ H =>
  ∃ b, PySem.W.exmOne K cls c = some b ∧ (b = true → ∀ a, H a = none → ts { nx := fun σ' H' => D.nx (σ'.set i none) H', rt := D.rt, bk := fun σ' H' => D.bk (σ'.set i none) H', ct := fun σ' H' => D.ct (σ'.set i none) H' } (σ.set i (some (.ref a))) (upd H a (exv a cls d))) ∧
    (b = false → Wout cls d σ H)
section
variable {X : Cx} {x n : Str} {c : Value} {i : Nat} {body suite : List Stmt} {b₀ : Stmt} {np pos pos' : Pos} {tb : WX → TS} {ts : TS} {Wout : WX}
theorem suiteK {pins : List (Addr × Obj)} {σ : L2.St} {H : Hp} {s : Shared} (I : Inv X pins σ H s) (a : Addr) : Inv (X.suite a (X.pn ++ pins)) [] σ H s :=
  ⟨I.ok.suite _ _, I.os, I.bare, I.base, I.loc, I.cell, I.free, I.freeC, fun p hp => I.pin p (by rw [List.append_nil] at hp; exact hp), I.hok, I.len⟩
theorem unsuiteK {pins pn' : List (Addr × Obj)} {σ : L2.St} {H : Hp} {s : Shared} {a : Addr} (I : Inv (X.suite a (X.pn ++ pins)) pn' σ H s) (ok : X.Ok) : Inv X pins σ H s :=
  ⟨ok, I.os, I.bare, I.base, I.loc, I.cell, I.free, I.freeC, fun p hp => I.pin p (List.mem_append_left _ hp), I.hok, I.len⟩
theorem ps_try_keep (hs : X.stack = X.env :: X.outer) (hf : X.env.frame = some X.env.locals) (hex : X.ex = []) (hN : X.N.Nodup) (hi : X.N[i]? = some n) (hln : X.env.kindOf n = some .local) (hc : Names X x c) (tk : Takes X Wout)
    (hb : ∀ (W : WX) (pn : List (Addr × Obj)) (xe : Value → Shared → Prop), Takes (X.tr pn xe) W → PassesOwn (model X.prog X.w) X.A X.env xe → PSs (X.tr pn xe) body (tb W))
    (hsu : ∀ (a : Addr) (pn : List (Addr × Obj)), PSs (X.suite a pn) (b₀ :: suite) ts) :
    PS X (.Try body [.ExceptHandler (some (.Name x np)) (some n) (b₀ :: suite) pos'] [] [] pos) (fun D σ H => tb (wKeep X.K c i ts Wout D) D σ H) := by
  refine ⟨fun pins s σ H D I h => ?_⟩
  have ok := I.ok
  have frm : X.A.frames = some (X.env :: X.outer) := by rw [ok.frames, hs]
  refine wpAny_Try_except ?_
  refine wpAny_mono ((hb (wKeep X.K c i ts Wout D) (X.pn ++ pins) (fun er s₁ => wpAny (model X.prog X.w) X.A (noteFrame er X.env) (fun _ s₂ => wpAny (model X.prog X.w) X.A (setFlight er none) (fun _ s₃ =>
    wpAny (model X.prog X.w) X.A (handleBy er X.env [.ExceptHandler (some (.Name x np)) (some n) (b₀ :: suite) pos']) (SP X pins D) X.xe s₃) X.xe s₂) X.xe s₁) (fun u s' air => ?_) PassesOwn.looking).run [] s σ H D (I.toTry _) h) (fun fl s1 sp => ?_) (fun er s1 he => he)
  · obtain ⟨a, B, sI, pins', σ', H', cls, d, rfl, J', gr, up, sky, na, os, ag, b, hb1, yes, no⟩ := air
    have J : Inv X pins σ' H' sI := J'.ofTry ok
    have sky' : Sky B (X.env :: X.outer) a (Zc cls d) X.env.locals s'.heap := by rw [← hs]; exact sky
    show wpAny (model X.prog X.w) X.A (noteFrame (.ref a) X.env) _ _ _
    refine Sky.land Zc.steady frm hf sky' fun h3 f3 u3 => ?_
    have J3 : Inv X pins σ' H' { s' with heap := h3 } := J.landed gr f3.1 (up.trans u3) os ag
    obtain ⟨o3, v3, he3, hz3, hd3⟩ := f3.there
    have nfr : a ∉ frs (X.env :: X.outer) := fun hm => by
      obtain ⟨_, o', e', hnf⟩ := f3.2.2.1.mem hm
      rw [he3] at e'
      cases e'
      exact hnf _ hd3
    have nL : a ≠ X.env.locals := fun z => nfr (List.mem_filterMap.mpr ⟨X.env, List.mem_cons_self, by rw [hf, z]⟩)
    have nF : a ∉ X.fs := fun hm => by
      obtain ⟨e, he, q⟩ := List.mem_filterMap.mp hm
      exact nfr (List.mem_filterMap.mpr ⟨e, List.mem_cons_of_mem _ he, q⟩)
    have nG : B.get? a = none := f3.2.1
    have nI : sI.heap.get? a = none := by
      cases e : sI.heap.get? a with
      | none => rfl
      | some o =>
        have z := gr a o e (by rw [hs]; exact nfr)
        rw [nG] at z
        cases z
    have n0 : X.s_0.heap.get? a = none := by
      cases e : X.s_0.heap.get? a with
      | none => rfl
      | some o =>
        obtain ⟨o', z⟩ := J.base.there a o e (by rw [hex]; exact fun z => nomatch z)
        rw [nI] at z
        cases z
    have nP : ∀ p ∈ X.pn ++ pins, p.1 ≠ a := fun p hp z => by
      have q := (J.pin p hp).1
      rw [z, nI] at q
      cases q
    have S3 := J3.suite he3 hd3 na nL nF
    refine wpAny_handleBy_cons (codeAny_handlers_test ?_) (by intro q; cases q)
    have lt : PySem.W.Looks (model X.prog X.w) h3 (typeOf (.ref a)) cls := fun A Q E s k q => wpAny_typeOf_ref (k _ _ he3) (by rw [hz3.1]; exact q)
    have lm := PySem.W.exm_one (M := model X.prog X.w) (J3.kIn) lt hb1
    have test : ∀ {Q : Value → Shared → Prop} {E : Value → Shared → Prop}, Q c { s' with heap := h3 } → wpAny (model X.prog X.w) (X.A.mark (some (.ref a))) (eval (.Name x np) X.env) Q E { s' with heap := h3 } := fun {Q E} q => by
      obtain ⟨g1, g2, g3 | ⟨g3, g4, g5⟩⟩ := hc
      · exact ld_glob (X := X.suite a ((a, o3) :: (X.pn ++ pins))) S3 g1 g3 q g2
      · exact ld_blt (X := X.suite a ((a, o3) :: (X.pn ++ pins))) S3 g1 g3 g4 q g5 g2
    refine test (lm.here ?_)
    cases b with
    | true =>
      refine codeAny_handlers_suite_as ?_
      refine HandSPX.lands_againZ f3 fun h4 f4 u4 => ?_
      have J4 : Inv X pins σ' H' { s' with heap := h4 } := J.landed gr f4.1 ((up.trans u3).trans u4) os ag
      obtain ⟨o4, v4, he4, hz4, hd4⟩ := f4.there
      have nC : ∀ x c, X.env.cells.lookup x = some c → c ≠ a := fun y c e z => by
        obtain ⟨v, o, q, hq⟩ := J4.cell y c e
        rw [z] at q
        have q' : h4.get? a = some o := q
        rw [he4] at q'
        cases q'
        rw [hd4] at hq
        cases hq
      have T4 : Inv X pins σ' (upd H' a (exv a cls d)) { s' with heap := h4 } := track J4 n0 na nL nC nP (exv_ok he4 hz4 hd4)
      have S4 := suiteK T4 a
      refine store_ok (X := X.suite a (X.pn ++ pins)) (v := .ref a) S4 hN hi (.inl hln) rfl (fun s5 S5 => ?_) (.inr hln)
      refine wpAny_mono ((hsu a (X.pn ++ pins)).run [] s5 _ (upd H' a (exv a cls d)) _ S5 (yes rfl a na)) (fun fl s6 sp => ?_) (fun _ _ z => False.elim z)
      have fin : ∀ {σ6 : L2.St} {H6 : Hp} {Q : Shared → Prop}, Inv (X.suite a (X.pn ++ pins)) [] σ6 H6 s6 → (∀ s7, Inv X pins (σ6.set i none) H6 s7 → Q s7) →
          wpAny (model X.prog X.w) X.A (do bindName X.env n .none; unbindBehindTheSuite X.env n pos') (fun _ s7 => Q s7) X.xe s6 := fun {σ6 H6 Q} S6 hq => gone_ok (unsuiteK S6 ok) hN hi hln hq
      cases fl with
      | next =>
        obtain ⟨σ6, H6, S6, q6⟩ := sp
        exact fin S6 fun s7 J7 => ⟨_, _, J7, q6⟩
      | brk =>
        obtain ⟨σ6, H6, S6, q6⟩ := sp
        exact fin S6 fun s7 J7 => ⟨_, _, J7, q6⟩
      | cont =>
        obtain ⟨σ6, H6, S6, q6⟩ := sp
        exact fin S6 fun s7 J7 => ⟨_, _, J7, q6⟩
      | ret u =>
        obtain ⟨v6, σ6, H6, S6, r6, q6⟩ := sp
        exact fin S6 fun s7 J7 => ⟨_, _, _, J7, r6, q6⟩
    | false =>
      show wpAny _ X.A (handleBy (.ref a) X.env []) _ _ _
      refine wpAny_handleBy_nil ?_
      obtain ⟨k1, k2, k3, oe, vs, T, oT, ts', he, hz, hd, h1, hr⟩ := id f3
      unfold PySem.passOn
      refine wpAny_bind (wpAny_field he hd h1 ?_)
      rw [if_neg (show ¬ ((Value.ref T == Value.none) = true) from by simp)]
      have fin : wpAny (model X.prog X.w) X.A (setFlight (.ref a) X.env.frame) (fun _ s4 => wpAny (model X.prog X.w) X.A (throw (.ref a) : Sem Flow) (SP X pins D) X.xe s4) X.xe { s' with heap := h3 } := by
        rw [hf]
        refine HandSPX.setFlight_upZ f3 fun h4 hh4 u4 => wpAny_throw (tk _ _ ?_)
        exact ⟨a, B, sI, pins, σ', H', cls, d, rfl, J, gr, (up.trans u3).trans u4, .inr (.inr (by rw [hs]; exact hh4)), na, os, ag, no rfl⟩
      first
        | exact wpAny_bind (wpAny_pure (wpAny_bind fin))
        | exact wpAny_bind fin
  · cases fl with
    | next =>
      obtain ⟨σ', H', J', q⟩ := sp
      exact wpAny_execs_nil ⟨σ', H', J'.ofTry ok, q⟩
    | brk =>
      obtain ⟨σ', H', J', q⟩ := sp
      exact ⟨σ', H', J'.ofTry ok, q⟩
    | cont =>
      obtain ⟨σ', H', J', q⟩ := sp
      exact ⟨σ', H', J'.ofTry ok, q⟩
    | ret u =>
      obtain ⟨v, σ', H', J', r, q⟩ := sp
      exact ⟨v, σ', H', J'.ofTry ok, r, q⟩
end
/-! ### asked -/
/-- what the class D says, so that isinstance asks its instances rightly, and their attributes are read -/
theorem exv_inst {P : Program} {w : World} {H : Hp} {h : Heap} {a D : Addr} {d : Option Addr} (hok : HOk P w H h) (he : H a = some (exv a (.ref D) d)) (hd : ∀ dd, d = some dd → ∃ fs, H dd = some (.xd fs)) : ∃ oe od, PySem.W.InstAt h a oe D od := by
  obtain ⟨oe, vs, e, ⟨z1, z2⟩, dt⟩ := exv_at hok he
  cases d with
  | none => exact ⟨oe, none, e, z1, by unfold PySem.W.notCls; rw [dt] <;> rfl, by rw [z2]; trivial⟩
  | some dd =>
    obtain ⟨fs, q⟩ := hd dd rfl
    have hx : ObjOk P w H h dd (.xd fs) := hok dd _ q
    obtain ⟨mA, ⟨o, es, ep, ho, _⟩, _⟩ := hx
    exact ⟨oe, some o, e, z1, by unfold PySem.W.notCls; rw [dt] <;> rfl, by rw [z2]; exact ho⟩
/-- isinstance(e, c), e an error of the class D -/
def rIsX (K : PySem.W.Frag) : List V → Hp → VK → Prop := fun xs H Q => ∃ (a D : Addr) (d : Option Addr) (c : V) (cv : Value) (b : Bool), xs = [.ref a, c] ∧ H a = some (exv a (.ref D) d) ∧ (∀ dd, d = some dd → ∃ fs, H dd = some (.xd fs)) ∧ ExcC K D ∧ ClsV c cv ∧ PySem.W.kitOne K (.ref D) cv = some b ∧ Q (.bl b) H
theorem kit_exc {K : PySem.W.Frag} {D x : Addr} {ox : Obj} {od : Option Obj} (C : ExcC K D) : PySem.W.KitX K (.ref x) (.ref D) (fun h => PySem.W.InstAt h x ox D od) := by
  refine PySem.W.kitx_exc ?_ C.hg C.hk C.hs C.ha C.hn C.ht C.hm
  obtain ⟨cd, hc, _⟩ := PySem.W.any_some C.hd
  rw [hc] <;> rfl
theorem call_isX {X : Cx} {K : PySem.W.Frag} (hK : X.K = K) : CallR X (.builtin "isinstance") (rIsX K) := by
  subst hK
  intro pins s σ H xs us Q I r h
  obtain ⟨a, D, d, c, cv, b, rfl, he, hd, C, k, e, q⟩ := h
  obtain ⟨u1, u2, rfl, r1, r2⟩ := vals2 r
  have e2 := k.eq r2
  subst e2
  cases (show u1 = Value.ref a from r1)
  obtain ⟨oe, od, J⟩ := exv_inst I.hok he hd
  exact PySem.W.kia_one (kit_exc C) I.kIn J e (fun z => nomatch z) fun tk => ⟨.bl b, H, I.tok tk, rfl, q⟩
/-- e.n, e an error of the class C -/
def tExvF (n : Str) (te : TE) (K : PySem.W.Frag) : TE := fun σ H Q => te σ H fun x H1 => ∃ (a C dd : Addr) (fs : List (Str × V)) (v : V), x = .ref a ∧ XfC K C ∧ PySem.W.findIn K (.ref C) n = some none ∧ H1 a = some (exv a (.ref C) (some dd)) ∧ H1 dd = some (.xd fs) ∧ fs.lookup n = some v ∧ Q v H1
theorem pe_exvF {X : Cx} {e : Expr} {te : TE} {pos : Pos} {n : Str} (he : PE X e te) (hb : attributeBase e n X.env (eval e X.env) = eval e X.env := by rfl) : PE X (.Attribute e n pos) (tExvF n te X.K) := by
  refine ⟨fun pins s σ H Q I h => ?_⟩
  refine attr_of hb (thn (he.run pins s σ H _ I h) fun u s1 hh => ?_)
  obtain ⟨x, H1, I1, rx, a, C, dd, fs, v, ex, T, hno, ea, ed, l, q⟩ := hh
  subst ex
  obtain rfl : u = Value.ref a := rx
  obtain ⟨oe, vs, ho, hz, hdt⟩ := exv_at I1.hok ea
  have hx : ObjOk X.prog X.w H1 s1.heap dd (.xd fs) := I1.hok dd _ ed
  obtain ⟨mA, hns, hr⟩ := hx
  obtain ⟨od, hod, hl⟩ := lookIn_ns hns
  obtain ⟨u, hu, ru⟩ := RelO.some_of (v := v) (o := mA n) (by rw [← l]; exact hr n)
  have J : PySem.W.InstAt s1.heap a oe C (some od) := ⟨ho, hz.1, by unfold PySem.W.notCls; rw [hdt] <;> rfl, by rw [hz.2]; exact hod⟩
  exact HandSPX.exc_get I1.kIn J T.ga T.gg T.exC (PySem.W.findObj_own T.hdC hno rfl (by rw [hl, hu])) (handed_of ru) ⟨v, H1, I1.tok _, ru, q⟩
end Lj
set_option Elab.async false
set_option linter.all false
set_option maxRecDepth 100000
namespace Lj
open PySem PySem.Spec PyProof.Rows L2
/-! ### rows moved by steps -/
def exT (p : Int) (t : Tr) (r : List Int) : List Int := match t with
  | .op w as => exRow p w as r
  | .loop _ _ => r
def act (p : Int) (E : List Tr) (r : List Int) : List Int := E.foldl (fun r t => exT p t r) r
theorem act_append (p : Int) (E F : List Tr) (r : List Int) : act p (E ++ F) r = act p F (act p E r) := List.foldl_append
theorem act_cons (p : Int) (t : Tr) (F : List Tr) (r : List Int) : act p (t :: F) r = act p F (exT p t r) := rfl
def gN (r : List Int) (j : Nat) : Int := r.getD j 0
theorem dvd_trans3 {p x y z : Int} (a : p ∣ x - y) (b : p ∣ y - z) : p ∣ x - z := by
  obtain ⟨u, hu⟩ := a
  obtain ⟨v, hv⟩ := b
  exact ⟨u + v, by grind⟩
theorem act_len {p n : Int} : ∀ {E : List Tr} {r : List Int}, Goods p n E → (act p E r).length = r.length
  | [], _, _ => rfl
  | t :: E, r, g => by
    obtain ⟨w, as, rfl, go⟩ := g t List.mem_cons_self
    rw [act_cons, act_len (fun u m => g u (List.mem_cons_of_mem _ m))]
    exact ex_len go
/-! ### units, matrices -/
def un (N k : Nat) : List Int := (List.replicate N 0).set k 1
/-! ### rounds -/
def rp (k : Nat) (E : List Tr) : List Tr := (List.replicate k E).flatten
theorem rp_len (k : Nat) (E : List Tr) : (rp k E).length = k * E.length := flat_len k E
/-! ### weights pulled back -/
/-- behind E the weights f give what before it g gives -/
def Adj (p : Int) (N : Nat) (E : List Tr) (f g : List Int) : Prop := g.length = N ∧ In p g ∧ ∀ r : List Int, r.length = N → p ∣ dot N (gN (act p E r)) (gN f) - dot N (gN r) (gN g)
theorem Adj.comp {p n : Int} {N : Nat} {D E : List Tr} {f g h : List Int} (gD : Goods p n D) (a : Adj p N E f g) (b : Adj p N D g h) : Adj p N (D ++ E) f h := by
  refine ⟨b.1, b.2.1, fun r hr => ?_⟩
  rw [act_append]
  exact dvd_trans3 (a.2.2 _ ((act_len gD).trans hr)) (b.2.2 r hr)
/-! ### with reads -/
/-- behind E the weights f give what before it g gives, and the inputs with the weights cs -/
def AdjR (p : Int) (N : Nat) (E : List Tr) (f g cs : List Int) : Prop := g.length = N ∧ In p g ∧ In p cs ∧ (cs.length : Int) = rc E ∧
  ∀ (is : List Int) (s : RS), s.row.length = N → p ∣ dot N (gN (rns p is s E).row) (gN f) - (dot N (gN s.row) (gN g) + sumF (fun j => gN cs j * gN is (s.tk + j)) cs.length)
theorem gN_app {a b : List Int} {j : Nat} : gN (a ++ b) j = if j < a.length then gN a j else gN b (j - a.length) := by
  unfold gN
  rw [List.getD_eq_getElem?_getD, List.getElem?_append]
  split
  · rw [List.getD_eq_getElem?_getD]
  · rw [List.getD_eq_getElem?_getD]
theorem AdjR.comp {p n : Int} {N : Nat} {D E : List Tr} {f g h cs ds : List Int} (gD : Goods p n D) (a : AdjR p N E f g cs) (b : AdjR p N D g h ds) : AdjR p N (D ++ E) f h (ds ++ cs) := by
  refine ⟨b.1, b.2.1, fun x m => ?_, ?_, fun is s hs => ?_⟩
  · rcases List.mem_append.mp m with m | m
    · exact b.2.2.1 x m
    · exact a.2.2.1 x m
  · rw [List.length_append, rc_append, ← a.2.2.2.1, ← b.2.2.2.1]
    omega
  rw [rns_append]
  have h1 := a.2.2.2.2 is (rns p is s D) ((rns_len gD).trans hs)
  have h2 := b.2.2.2.2 is s hs
  have tk : (rns p is s D).tk = s.tk + ds.length := by
    have := rns_tk (is := is) (s := s) gD
    have := b.2.2.2.1
    omega
  rw [tk] at h1
  rw [List.length_append, sumF_add]
  have e1 : sumF (fun j => gN (ds ++ cs) j * gN is (s.tk + j)) ds.length = sumF (fun j => gN ds j * gN is (s.tk + j)) ds.length := sumF_cong fun j hj => by rw [gN_app, if_pos hj]
  have e2 : sumF (fun i => gN (ds ++ cs) (ds.length + i) * gN is (s.tk + (ds.length + i))) cs.length = sumF (fun j => gN cs j * gN is (s.tk + ds.length + j)) cs.length := sumF_cong fun j hj => by
    rw [gN_app, if_neg (by omega), show ds.length + j - ds.length = j by omega, Nat.add_assoc]
  rw [e1, e2]
  obtain ⟨u, hu⟩ := h1
  obtain ⟨v, hv⟩ := h2
  exact ⟨u + v, by grind⟩
end Lj
set_option Elab.async false
set_option linter.all false
set_option maxRecDepth 100000
namespace Lj
open PySem PySem.Spec PyProof.Rows L2
/-! ### stretches of a list -/
def sl {α : Type} (E : List α) (a b : Nat) : List α := (E.drop a).take (b - a)
section
variable {α : Type} {A B E : List α} {a b c : Nat}
theorem sl_app : sl (A ++ B) a b = sl A a b ++ sl B (a - A.length) (b - A.length) := by
  unfold sl
  rw [List.drop_append, List.take_append, List.length_drop]
  congr 2
  omega
theorem sl_none (h : b ≤ a) : sl E a b = [] := by
  unfold sl
  rw [show b - a = 0 by omega, List.take_zero]
theorem sl_past (h : E.length ≤ a) : sl E a b = [] := by
  unfold sl
  rw [List.drop_eq_nil_of_le h, List.take_nil]
theorem sl_len : (sl E a b).length = min (b - a) (E.length - a) := by
  unfold sl
  rw [List.length_take, List.length_drop]
end
/-! ### pieces -/
structure Pc where
  st : Nat
  x : Addr
  t : Tr
  r : Nat
def Pc.ex (c : Pc) : List Tr := match c.t with
  | .op w as => [.op w as]
  | .loop _ b => rp c.r (exs b)
def pex (L : List Pc) : List Tr := (L.map Pc.ex).flatten
theorem pex_append (L M : List Pc) : pex (L ++ M) = pex L ++ pex M := by rw [pex, List.map_append, List.flatten_append]; rfl
/-- it reads or writes -/
def loud (b : List Tr) : Bool := decide (0 < cnts "read" b + cnts "write" b)
def Pc.ok (c : Pc) : Prop := match c.t with
  | .op _ _ => c.r = 1
  | .loop k b => loud b = false ∧ 1 ≤ c.r ∧ (c.r : Int) ≤ k ∧ exs b ≠ []
def Pos : Nat → List Pc → Prop
  | _, [] => True
  | o, c :: r => c.st = o ∧ Pos (o + c.ex.length) r
theorem Pos.append : ∀ {L M : List Pc} {o : Nat}, Pos o L → Pos (o + (pex L).length) M → Pos o (L ++ M)
  | [], _, _, _, h => h
  | c :: L, M, o, h1, h2 => by
    refine ⟨h1.1, Pos.append h1.2 ?_⟩
    have : (pex (c :: L)).length = c.ex.length + (pex L).length := by
      show ((c.ex :: L.map Pc.ex).flatten).length = _
      rw [List.flatten_cons, List.length_append]
      rfl
    rw [this] at h2
    rwa [Nat.add_assoc]
theorem Pos.one (c : Pc) : Pos c.st [c] := ⟨rfl, trivial⟩
mutual
/-- at most so many pieces -/
def Tr.pcB : Tr → Nat
  | .op _ _ => 1
  | .loop k b => if loud b = true then k.toNat * pcBs b else 2 * pcBs b + 1
def pcBs : List Tr → Nat
  | [] => 0
  | t :: r => t.pcB + pcBs r
end
/-- what gather has found of a program from s to e -/
structure Found (o s e : Nat) (E : List Tr) (n : Nat) (L : List Pc) : Prop where
  ex : pex L = sl E s e
  ok : ∀ c ∈ L, c.ok
  pos : Pos (o + s) L
  few : L.length ≤ n
theorem Found.zero (o s e : Nat) : Found o s e [] 0 [] := ⟨by rw [sl_past (Nat.zero_le _)]; rfl, (fun c m => nomatch m), trivial, Nat.le_refl _⟩
/-- one part more -/
theorem Found.next {o s e a c : Nat} {E F : List Tr} {L M : List Pc} (h : Found o s e E a L) (k : Found (o + E.length) (s - E.length) (e - E.length) F c M) : Found o s e (E ++ F) (a + c) (L ++ M) := by
  refine ⟨by rw [pex_append, sl_app, h.ex, k.ex], fun d m => (List.mem_append.mp m).elim (h.ok d) (k.ok d), ?_, by rw [List.length_append]; have := h.few; have := k.few; omega⟩
  by_cases z : M = []
  · subst z
    rw [List.append_nil]
    exact h.pos
  refine h.pos.append ?_
  have l := h.ex
  have ll : (pex L).length = min (e - s) (E.length - s) := by rw [l, sl_len]
  have se : s - E.length < e - E.length := by
    rcases Nat.lt_or_ge (s - E.length) (e - E.length) with q | q
    · exact q
    · exfalso
      have e0 : pex M = [] := by rw [k.ex, sl_none q]
      cases M with
      | nil => exact z rfl
      | cons c M =>
        have m := k.ok c List.mem_cons_self
        have e1 : c.ex = [] := by
          have : c.ex ++ pex M = [] := e0
          exact (List.append_eq_nil_iff.mp this).1
        unfold Pc.ok at m
        unfold Pc.ex at e1
        split at m
        · rename_i w as he
          rw [he] at e1
          cases e1
        · rename_i kk b he
          rw [he] at e1
          obtain ⟨_, m1, _, m2⟩ := m
          have l2 : (rp c.r (exs b)).length = 0 := by
            have : rp c.r (exs b) = [] := e1
            rw [this]
            rfl
          rw [rp_len] at l2
          rcases Nat.mul_eq_zero.mp l2 with l2 | l2
          · omega
          · exact m2 (List.length_eq_zero_iff.mp l2)
  have q := k.pos
  rw [ll]
  have : o + s + min (e - s) (E.length - s) = o + E.length + (s - E.length) := by omega
  rw [this]
  exact q
theorem Found.le {o s e c d : Nat} {F : List Tr} {M : List Pc} (h : Found o s e F c M) (l : c ≤ d) : Found o s e F d M := ⟨h.ex, h.ok, h.pos, Nat.le_trans h.few l⟩
theorem Found.op {o x : Nat} {a : Addr} {w : Str} {as : List Int} : Found o 0 1 [.op w as] 1 [⟨o, a, .op w as, 1⟩] := ⟨rfl, fun c m => by rw [List.mem_singleton.mp m]; rfl, ⟨rfl, trivial⟩, Nat.le_refl _⟩
end Lj
set_option Elab.async false
set_option linter.all false
set_option maxRecDepth 100000
set_option pp.maxSteps 500
namespace Lj
open PySem PySem.Spec PyProof.Rows L2
/-! ### programs drawn by their size -/
mutual
def Tr.sz : Tr → Nat
  | .op _ _ => 1
  | .loop _ b => 1 + szN b
def szN : List Tr → Nat
  | [] => 0
  | t :: r => t.sz + szN r
end
mutual
/-- loops at most d deep; G: of the others, R: of the rounds -/
def Tr.dr (G : Str → List Int → Prop) (R : Int → Prop) : Tr → Nat → Prop
  | .op w as, _ => G w as
  | .loop _ _, 0 => False
  | .loop k b, d + 1 => R k ∧ drs G R b d
def drs (G : Str → List Int → Prop) (R : Int → Prop) : List Tr → Nat → Prop
  | [], _ => True
  | t :: r, d => t.dr G R d ∧ drs G R r d
end
theorem szN_append : ∀ a b : List Tr, szN (a ++ b) = szN a + szN b
  | [], b => by rw [List.nil_append, szN, Nat.zero_add]
  | t :: r, b => by rw [List.cons_append, szN, szN, szN_append r b, Nat.add_assoc]
theorem szN_one (t : Tr) : szN [t] = t.sz := by rw [szN, szN, Nat.add_zero]
theorem Tr.sz_pos : ∀ t : Tr, 1 ≤ t.sz
  | .op _ _ => by rw [Tr.sz]; exact Nat.le_refl 1
  | .loop _ b => by rw [Tr.sz]; omega
theorem szN_len : ∀ b : List Tr, b.length ≤ szN b
  | [] => Nat.zero_le _
  | t :: r => by
    rw [szN, List.length_cons]
    have := szN_len r
    have := t.sz_pos
    omega
section
variable {G : Str → List Int → Prop} {R : Int → Prop}
theorem drs_nil {d : Nat} : drs G R [] d := by
  rw [drs]
  trivial
theorem drs_one {t : Tr} {d : Nat} (h : t.dr G R d) : drs G R [t] d := by
  rw [drs, drs]
  exact ⟨h, trivial⟩
theorem drs_append : ∀ {a b : List Tr} {d : Nat}, drs G R a d → drs G R b d → drs G R (a ++ b) d
  | [], _, _, _, k => k
  | t :: r, b, d, h, k => by
    rw [drs] at h
    rw [List.cons_append, drs]
    exact ⟨h.1, drs_append h.2 k⟩
mutual
theorem Tr.dr_wf (hG : ∀ w as, G w as → w ∈ W7) (hR : ∀ k, R k → 0 ≤ k ∧ k ≤ 10 ^ 18) : ∀ (t : Tr) (d : Nat), t.sz ≤ 1001 → t.dr G R d → t.wf d
  | .op w as, d, _, h => by
    rw [Tr.dr] at h
    rw [Tr.wf]
    exact W7_noloop (hG w as h)
  | .loop k b, 0, _, h => by
    rw [Tr.dr] at h
    exact h.elim
  | .loop k b, d + 1, hl, h => by
    rw [Tr.dr] at h
    rw [Tr.sz] at hl
    rw [Tr.wf]
    have := szN_len b
    exact ⟨(hR k h.1).1, (hR k h.1).2, by omega, drs_wf hG hR b d (by omega) h.2⟩
theorem drs_wf (hG : ∀ w as, G w as → w ∈ W7) (hR : ∀ k, R k → 0 ≤ k ∧ k ≤ 10 ^ 18) : ∀ (b : List Tr) (d : Nat), szN b ≤ 1001 → drs G R b d → wfs b d
  | [], _, _, _ => by rw [wfs]; trivial
  | t :: r, d, hl, h => by
    rw [drs] at h
    rw [szN] at hl
    rw [wfs]
    exact ⟨Tr.dr_wf hG hR t d (by omega) h.1, drs_wf hG hR r d (by omega) h.2⟩
end
theorem drs_ok (hG : ∀ w as, G w as → w ∈ W7) (hR : ∀ k, R k → 0 ≤ k ∧ k ≤ 10 ^ 18) {b : List Tr} {d : Nat} (hl : szN b ≤ 1000) (h : drs G R b d) : okB (d + 1) b := ⟨drs_wf hG hR b d (by omega) h, by have := szN_len b; omega⟩
mutual
theorem Tr.dr_ops : ∀ (t : Tr) (d : Nat), t.dr G R d → ∀ x ∈ t.ex, ∃ z as, x = .op z as ∧ G z as
  | .op w as, d, h => by
    rw [Tr.dr] at h
    rw [Tr.ex]
    intro t m
    exact ⟨w, as, List.mem_singleton.mp m, h⟩
  | .loop k b, 0, h => by rw [Tr.dr] at h; exact h.elim
  | .loop k b, d + 1, h => by
    rw [Tr.dr] at h
    rw [Tr.ex]
    intro t m
    obtain ⟨xs, m1, m2⟩ := List.mem_flatten.mp m
    rw [(List.mem_replicate.mp m1).2] at m2
    exact drs_ops b d h.2 t m2
theorem drs_ops : ∀ (b : List Tr) (d : Nat), drs G R b d → ∀ x ∈ exs b, ∃ z as, x = .op z as ∧ G z as
  | [], _, _ => by rw [exs]; intro t m; cases m
  | t :: r, d, h => by
    rw [drs] at h
    rw [exs]
    intro u m
    rcases List.mem_append.mp m with m | m
    · exact Tr.dr_ops t d h.1 u m
    · exact drs_ops r d h.2 u m
end
mutual
/-- what is executed, with loops of at most r rounds -/
theorem Tr.dr_ex {r : Nat} (r1 : 1 ≤ r) (hR : ∀ k, R k → 0 ≤ k ∧ k ≤ (r : Int)) : ∀ (t : Tr) (d : Nat), t.dr G R d → t.ex.length ≤ t.sz * r ^ d
  | .op w as, d, _ => by
    rw [Tr.ex, Tr.sz, Nat.one_mul]
    exact Nat.pow_pos r1
  | .loop k b, 0, h => by rw [Tr.dr] at h; exact h.elim
  | .loop k b, d + 1, h => by
    rw [Tr.dr] at h
    have ih := drs_ex r1 hR b d h.2
    have hk := hR k h.1
    rw [Tr.ex, Tr.sz, List.length_flatten, List.map_replicate, List.sum_replicate_nat, Nat.pow_succ]
    have h1 : k.toNat * (exs b).length ≤ r * (szN b * r ^ d) := Nat.mul_le_mul (by omega) ih
    have h2 : r * (szN b * r ^ d) = szN b * (r ^ d * r) := by rw [Nat.mul_left_comm, Nat.mul_comm r]
    rw [h2] at h1
    refine Nat.le_trans h1 (Nat.mul_le_mul_right _ (by omega))
theorem drs_ex {r : Nat} (r1 : 1 ≤ r) (hR : ∀ k, R k → 0 ≤ k ∧ k ≤ (r : Int)) : ∀ (b : List Tr) (d : Nat), drs G R b d → (exs b).length ≤ szN b * r ^ d
  | [], _, _ => by rw [exs]; exact Nat.zero_le _
  | t :: q, d, h => by
    rw [drs] at h
    have h1 := Tr.dr_ex r1 hR t d h.1
    have h2 := drs_ex r1 hR q d h.2
    rw [exs, List.length_append, szN, Nat.add_mul]
    omega
end
mutual
/-- how many pieces: the loops that read or write have at most r rounds -/
theorem Tr.dr_pc {r : Nat} (r2 : 2 ≤ r) (hR : ∀ k b, R k → loud b = true → drs G R b 0 ∨ True → k ≤ (r : Int)) : ∀ (t : Tr) (d : Nat), t.dr G R d → t.pcB ≤ t.sz * r ^ d
  | .op w as, d, _ => by
    rw [Tr.pcB, Tr.sz, Nat.one_mul]
    exact Nat.pow_pos (by omega)
  | .loop k b, 0, h => by rw [Tr.dr] at h; exact h.elim
  | .loop k b, d + 1, h => by
    rw [Tr.dr] at h
    have ih := drs_pc r2 hR b d h.2
    rw [Tr.pcB, Tr.sz, Nat.pow_succ]
    have h2 : r * (szN b * r ^ d) = szN b * (r ^ d * r) := by rw [Nat.mul_left_comm, Nat.mul_comm r]
    have h3 : 1 ≤ r ^ d * r := Nat.le_trans (by omega) (Nat.le_mul_of_pos_left r (Nat.pow_pos (by omega)))
    rw [Nat.add_mul, Nat.one_mul]
    split
    · rename_i lo
      have hk := hR k b h.1 lo (.inr trivial)
      have h1 : k.toNat * pcBs b ≤ r * (szN b * r ^ d) := Nat.mul_le_mul (by omega) ih
      omega
    · have h1 : 2 * pcBs b ≤ r * (szN b * r ^ d) := Nat.mul_le_mul r2 ih
      omega
theorem drs_pc {r : Nat} (r2 : 2 ≤ r) (hR : ∀ k b, R k → loud b = true → drs G R b 0 ∨ True → k ≤ (r : Int)) : ∀ (b : List Tr) (d : Nat), drs G R b d → pcBs b ≤ szN b * r ^ d
  | [], _, _ => by rw [pcBs]; exact Nat.zero_le _
  | t :: q, d, h => by
    rw [drs] at h
    have h1 := Tr.dr_pc r2 hR t d h.1
    have h2 := drs_pc r2 hR q d h.2
    rw [pcBs, szN, Nat.add_mul]
    omega
end
mutual
theorem Tr.dr_fine {r : Nat} (r1 : 1 ≤ r) (hG : ∀ w as, G w as → w ∈ W7) (hR : ∀ k, R k → 0 ≤ k ∧ k ≤ (r : Int)) : ∀ (t : Tr) (d : Nat), t.sz * r ^ d ≤ 100000 → t.dr G R d → t.fine
  | .op w as, d, _, h => by
    rw [Tr.dr] at h
    rw [Tr.fine]
    exact hG w as h
  | .loop k b, 0, _, h => by rw [Tr.dr] at h; exact h.elim
  | .loop k b, d + 1, hb, h => by
    rw [Tr.dr] at h
    rw [Tr.sz] at hb
    rw [Tr.fine]
    have ih := drs_ex r1 hR b d h.2
    have h1 : szN b * r ^ d ≤ (1 + szN b) * r ^ (d + 1) := Nat.mul_le_mul (by omega) (Nat.pow_le_pow_right r1 (Nat.le_succ d))
    exact ⟨by omega, drs_fine r1 hG hR b d (by omega) h.2⟩
theorem drs_fine {r : Nat} (r1 : 1 ≤ r) (hG : ∀ w as, G w as → w ∈ W7) (hR : ∀ k, R k → 0 ≤ k ∧ k ≤ (r : Int)) : ∀ (b : List Tr) (d : Nat), szN b * r ^ d ≤ 100000 → drs G R b d → fines b
  | [], _, _, _ => by rw [fines]; trivial
  | t :: q, d, hl, h => by
    rw [drs] at h
    rw [szN, Nat.add_mul] at hl
    rw [fines]
    exact ⟨Tr.dr_fine r1 hG hR t d (by omega) h.1, drs_fine r1 hG hR q d (by omega) h.2⟩
end
mutual
theorem Tr.dr_show (hG : ∀ w as, G w as → Short w as) (hR : ∀ k, R k → k.natAbs < 2 ^ 1000) : ∀ (t : Tr) (d : Nat), t.dr G R d →
    t.datT.showable = true ∧ t.datT.hasDict = false ∧ t.datT.depth ≤ 2 * d + 1 ∧ t.datT.shown.length + 3 ≤ 20002 * t.sz
  | .op w as, d, h => by
    rw [Tr.dr] at h
    obtain ⟨h1, h2, h3⟩ := hG w as h
    obtain ⟨a1, a2, a3, a4, a5⟩ := leaf_all (leaf_ints h3)
    rw [Tr.datT]
    refine ⟨by rw [PyData.showable, PyData.showableAll, PyData.showable, a1]; rfl, by rw [PyData.hasDict, PyData.hasDictAll, PyData.hasDict, a2]; rfl, by rw [PyData.depth, PyData.depthAll, PyData.depth, a3]; exact Nat.succ_le_succ (Nat.zero_le _), ?_⟩
    rw [PyData.shown, PyData.shownAll]
    have z := PySem.tupleText_len_le (PyData.shown (.str w) :: PyData.shownAll (as.map PyData.int))
    rw [List.map_cons, List.sum_cons, List.length_cons, a5] at z
    have z2 := W7_shown h1
    rw [List.length_map] at z a4
    rw [Tr.sz]
    omega
  | .loop k b, 0, h => by rw [Tr.dr] at h; exact h.elim
  | .loop k b, d + 1, h => by
    rw [Tr.dr] at h
    obtain ⟨b1, b2, b3, b4, b5⟩ := drs_show hG hR b d h.2
    obtain ⟨i1, i2, i3, i4⟩ := leaf_int (log_of (hR k h.1) (by decide) (by decide))
    have lp : (PyData.shown (.str "loop")).length ≤ 20 := by decide +kernel
    have y := PySem.tupleText_len_le (PyData.shownAll (datTs b))
    have hb := szN_len b
    rw [Tr.datT]
    refine ⟨by rw [PyData.showable, PyData.showableAll, PyData.showable, PyData.showableAll, i1, PyData.showableAll, PyData.showable, b1, PyData.showableAll]; rfl,
      by rw [PyData.hasDict, PyData.hasDictAll, PyData.hasDict, PyData.hasDictAll, i2, PyData.hasDictAll, PyData.hasDict, b2, PyData.hasDictAll]; rfl,
      by rw [PyData.depth, PyData.depthAll, PyData.depth, PyData.depthAll, i3, PyData.depthAll, PyData.depth, PyData.depthAll]; omega, ?_⟩
    rw [PyData.shown, PyData.shownAll, PyData.shownAll, PyData.shownAll, PyData.shownAll]
    have z := PySem.tupleText_len_le [PyData.shown (.str "loop"), PyData.shown (.int k), PyData.shown (.tuple (datTs b))]
    have ez : (PyData.shown (.tuple (datTs b))) = tupleText (PyData.shownAll (datTs b)) := by rw [PyData.shown]
    rw [List.map_cons, List.map_cons, List.map_cons, List.map_nil, List.sum_cons, List.sum_cons, List.sum_cons, List.sum_nil, ez] at z
    rw [show ([PyData.shown (.str "loop"), PyData.shown (.int k), tupleText (PyData.shownAll (datTs b))] : List Str).length = 3 from rfl] at z
    rw [ez, Tr.sz]
    omega
theorem drs_show (hG : ∀ w as, G w as → Short w as) (hR : ∀ k, R k → k.natAbs < 2 ^ 1000) : ∀ (b : List Tr) (d : Nat), drs G R b d →
    PyData.showableAll (datTs b) = true ∧ PyData.hasDictAll (datTs b) = false ∧ PyData.depthAll (datTs b) ≤ 2 * d + 1 ∧ ((PyData.shownAll (datTs b)).map (·.length)).sum + 3 * b.length ≤ 20002 * szN b ∧ (PyData.shownAll (datTs b)).length = b.length
  | [], d, _ => by
    rw [datTs]
    exact ⟨by rw [PyData.showableAll], by rw [PyData.hasDictAll], by rw [PyData.depthAll]; exact Nat.zero_le _, by rw [PyData.shownAll]; exact Nat.zero_le _, by rw [PyData.shownAll]; rfl⟩
  | t :: r, d, h => by
    rw [drs] at h
    obtain ⟨a1, a2, a3, a4⟩ := Tr.dr_show hG hR t d h.1
    obtain ⟨b1, b2, b3, b4, b5⟩ := drs_show hG hR r d h.2
    rw [datTs]
    refine ⟨by rw [PyData.showableAll, a1, b1]; rfl, by rw [PyData.hasDictAll, a2, b2]; rfl, by rw [PyData.depthAll]; omega, ?_, by rw [PyData.shownAll, List.length_cons, b5, List.length_cons]⟩
    rw [PyData.shownAll, List.map_cons, List.sum_cons, szN, List.length_cons]
    omega
end
end
theorem GoodOp.short {p n : Int} {w : Str} {as : List Int} (g : GoodOp p n w as) (hp : p ≤ 10007) (hn : n ≤ 100) : Short w as := by
  have big : (10007 : Nat) < 2 ^ 1000 := by decide +kernel
  refine ⟨g.w7, ?_⟩
  rcases g with ⟨_, x, c, rfl, x0, x1, c0, c1⟩ | ⟨_, x, rfl, x0, x1⟩ | ⟨_, x, y, rfl, x0, x1, y0, y1, _⟩ | ⟨_, x, y, c, rfl, x0, x1, y0, y1, _, c0, c1⟩
  · exact ⟨by show 2 ≤ 3; omega, fun a m => by rcases List.mem_cons.mp m with rfl | m <;> first | omega | (rw [List.mem_singleton.mp m]; omega)⟩
  · exact ⟨by show 1 ≤ 3; omega, fun a m => by rw [List.mem_singleton.mp m]; omega⟩
  · exact ⟨by show 2 ≤ 3; omega, fun a m => by rcases List.mem_cons.mp m with rfl | m <;> first | omega | (rw [List.mem_singleton.mp m]; omega)⟩
  · refine ⟨by show 3 ≤ 3; omega, fun a m => ?_⟩
    rcases List.mem_cons.mp m with rfl | m
    · omega
    · rcases List.mem_cons.mp m with rfl | m
      · omega
      · rw [List.mem_singleton.mp m]
        omega
/-! ### promises of the law's own defs -/
/-! ### a test, with a word for what stands behind it -/
/-! ### powers of great numbers -/
end Lj
set_option Elab.async false
set_option linter.all false
set_option maxRecDepth 100000
set_option maxHeartbeats 1000000
set_option pp.maxSteps 500
set_option pp.deepTerms.threshold 8
set_option pp.deepTerms false
namespace Lj
open PySem PySem.Spec PyProof.Rows L2
/-! ### zip(text, tuple), the text of plain signs -/
def sgn (x : Str) : List V := x.cps.toList.map fun c => V.str ⟨#[c]⟩
theorem sgn_len (x : Str) : (sgn x).length = x.cps.size := by
  unfold sgn
  rw [List.length_map, Array.length_toList]
theorem feed_str {i : Addr} {x : Str} {t : Tok} : Feed i x.cps.size (fun k v => ∃ c u, x.cps[k]? = some c ∧ v = .str ⟨#[c]⟩ u) (fun k h => h.IsStrIter i "str_ascii_iterator" x t k) (fun _ => True) where
  give := fun {_ _ _ _ s k _} hk st _ q => wpAny_nextOf_ascii_item st (Array.getElem?_eq_getElem hk) fun h' a b => q _ h' (s.toks + 1) ⟨_, _, Array.getElem?_eq_getElem hk, rfl⟩ a b
  over := fun {_ _ _ _ s _} hh st _ q => wpAny_nextOf_ascii_end hh st (by simp) fun h' e a b => q h' e s.toks a b
  stay := fun ⟨o, e, r⟩ k => ⟨o, k o e, r⟩
  obj := fun ⟨o, e, _, d⟩ => ⟨o, _, e, d⟩
theorem sr_str {P : Program} {w : World} {K : PySem.W.Frag} {x : Str} {t : Tok} : Sr P w K (fun i k h => h.IsStrIter i "str_ascii_iterator" x t k) (fun _ => True) [] (sgn x) where
  feed := fun {X pins σ H s} e1 e2 e3 I g i => by
    refine ⟨fun k v => ∃ c u, x.cps[k]? = some c ∧ v = .str ⟨#[c]⟩ u, fun _ => True, ?_, trivial, fun _ _ _ _ => trivial, fun k u ⟨c, v, e, h⟩ => ⟨V.str ⟨#[c]⟩, ?_, ?_⟩⟩
    · rw [sgn_len]
      exact feed_str
    · unfold sgn
      rw [List.getElem?_map, Array.getElem?_toList, e]
      rfl
    · exact ⟨v, h⟩
  stay := fun ⟨o, e, r⟩ k => ⟨o, k o e, r⟩
  obj := fun ⟨o, e, _, d⟩ => ⟨o, _, e, d⟩
abbrev oSi (x : Str) (t : Tok) : Obj := { cls := .type "str_ascii_iterator", data := .fields #[.str x t, .int 0 0] }
end Lj
set_option Elab.async false
set_option linter.all false
set_option maxRecDepth 100000
set_option pp.maxSteps 500
set_option pp.deepTerms.threshold 8
set_option pp.deepTerms false
namespace Lj
open PySem PySem.Spec PyProof.Rows L2
/-! ### the heap but for some places -/
def Held (B : List Addr) (H : Hp) : Prop := ∀ x ∈ B, ∃ o, H x = some o
theorem Held.same {B : List Addr} {H H' : Hp} (h : Held B H) (s : Same H H') : Held B H' := fun x m => by
  obtain ⟨o, e⟩ := h x m
  exact ⟨o, s _ _ e⟩
theorem Held.but {B : List Addr} {u : Addr} {H H' : Hp} (h : Held B H) (k : But u H H') (e : ∃ o, H' u = some o) : Held B H' := fun x m => by
  by_cases c : x = u
  · subst c
    exact e
  · obtain ⟨o, e⟩ := h x m
    exact ⟨o, k _ _ c e⟩
theorem Held.no {B : List Addr} {H : Hp} {p : Addr} (h : Held B H) (n : H p = none) : p ∉ B := fun m => by
  obtain ⟨o, e⟩ := h p m
  rw [n] at e
  cases e
/-! ### data, part by part -/
theorem DdAll.append {K : PySem.W.Frag} {H : Hp} : ∀ {xs ys : List V} {ds es : List PyData}, DdAll K H xs ds → DdAll K H ys es → DdAll K H (xs ++ ys) (ds ++ es)
  | _, _, _, _, .nil, h => h
  | _, _, _, _, .cons a t, h => .cons a (t.append h)
theorem DdAll.take {K : PySem.W.Frag} {H : Hp} : ∀ {xs : List V} {ds : List PyData} (i : Nat), DdAll K H xs ds → DdAll K H (xs.take i) (ds.take i)
  | _, _, 0, _ => .nil
  | _, _, i + 1, .nil => .nil
  | _, _, i + 1, .cons a t => .cons a (t.take i)
theorem DdAll.drop {K : PySem.W.Frag} {H : Hp} : ∀ {xs : List V} {ds : List PyData} (i : Nat), DdAll K H xs ds → DdAll K H (xs.drop i) (ds.drop i)
  | _, _, 0, h => h
  | _, _, i + 1, .nil => .nil
  | _, _, i + 1, .cons a t => t.drop i
theorem DdAll.reverse {K : PySem.W.Frag} {H : Hp} : ∀ {xs : List V} {ds : List PyData}, DdAll K H xs ds → DdAll K H xs.reverse ds.reverse
  | _, _, .nil => .nil
  | _, _, .cons a t => by
    rw [List.reverse_cons, List.reverse_cons]
    exact t.reverse.append (.cons a .nil)
theorem DdAll.mem {K : PySem.W.Frag} {H : Hp} : ∀ {xs : List V} {ds : List PyData} {x : V}, DdAll K H xs ds → x ∈ xs → ∃ d ∈ ds, Dd K H x d
  | _, _, _, .cons a t, m => by
    rcases List.mem_cons.mp m with rfl | m
    · exact ⟨_, List.mem_cons_self, a⟩
    · obtain ⟨d, m, h⟩ := t.mem m
      exact ⟨d, List.mem_cons_of_mem _ m, h⟩
theorem DdAll.same {K : PySem.W.Frag} {H H' : Hp} (s : Same H H') {vs : List V} {ds : List PyData} (h : DdAll K H vs ds) : DdAll K H' vs ds := h.kt (fun q => s.seq q) (fun q => tup_same s q) (fun q => s _ _ q)
/-! ### measures -/
mutual
def gd : PyData → Prop
  | .list ds => gds ds
  | .tuple ds => gds ds
  | .dict kvs => kvs = []
  | .none => True
  | .bool _ => True
  | .int i => Leaf (.int i)
  | .str x => Leaf (.str x)
def gds : List PyData → Prop
  | [] => True
  | d :: ds => gd d ∧ gds ds
end
mutual
def bt : PyData → Nat
  | .list ds => 5 + bts ds
  | .tuple ds => 5 + bts ds
  | .dict _ => 1923
  | .none => 1923
  | .bool _ => 1923
  | .int i => 1923
  | .str x => 1923
def bts : List PyData → Nat
  | [] => 0
  | d :: ds => bt d + bts ds
end
theorem leaf_bool (b : Bool) : Leaf (.bool b) := ⟨by rw [PyData.showable], by rw [PyData.hasDict], by rw [PyData.depth], by rw [PyData.shown]; cases b <;> decide⟩
mutual
theorem shown_bt : ∀ (d : PyData), gd d → d.showable = true ∧ d.shown.length + 2 ≤ bt d
  | .none, h => by
    obtain ⟨a, _, _, b⟩ := leaf_none
    rw [bt]
    exact ⟨a, by omega⟩
  | .bool x, h => by
    obtain ⟨a, _, _, b⟩ := leaf_bool x
    rw [bt]
    exact ⟨a, by omega⟩
  | .int i, h => by
    rw [gd] at h
    obtain ⟨a, _, _, b⟩ := h
    rw [bt]
    exact ⟨a, by omega⟩
  | .str x, h => by
    rw [gd] at h
    obtain ⟨a, _, _, b⟩ := h
    rw [bt]
    exact ⟨a, by omega⟩
  | .dict kvs, h => by
    rw [gd] at h
    subst h
    rw [bt]
    exact ⟨by rw [PyData.showable, PyData.showableKv], by rw [PyData.shown, PyData.shownKv]; decide⟩
  | .list ds, h => by
    rw [gd] at h
    obtain ⟨a, b, c⟩ := shown_bts ds h
    rw [bt]
    refine ⟨by rw [PyData.showable]; exact a, ?_⟩
    rw [PyData.shown]
    have := PySem.listText_len_le (PyData.shownAll ds)
    omega
  | .tuple ds, h => by
    rw [gd] at h
    obtain ⟨a, b, c⟩ := shown_bts ds h
    rw [bt]
    refine ⟨by rw [PyData.showable]; exact a, ?_⟩
    rw [PyData.shown]
    have := PySem.tupleText_len_le (PyData.shownAll ds)
    omega
theorem shown_bts : ∀ (ds : List PyData), gds ds → PyData.showableAll ds = true ∧ ((PyData.shownAll ds).map (·.length)).sum + 2 * ds.length ≤ bts ds ∧ (PyData.shownAll ds).length = ds.length
  | [], h => by
    rw [PyData.showableAll, PyData.shownAll, bts]
    exact ⟨rfl, Nat.le_refl _, rfl⟩
  | d :: ds, h => by
    rw [gds] at h
    obtain ⟨a, b⟩ := shown_bt d h.1
    obtain ⟨c, e, f⟩ := shown_bts ds h.2
    rw [PyData.showableAll, PyData.shownAll, bts, a, c, List.map_cons, List.sum_cons, List.length_cons, List.length_cons, f]
    exact ⟨rfl, by omega, rfl⟩
end
/-- what may be asked of a value -/
def Sm (d : PyData) : Prop := gd d ∧ bt d ≤ 10000000 ∧ d.depth ≤ 60 ∧ lx d ≤ 1000
theorem Sm.line {d : PyData} (h : Sm d) : d.showable = true ∧ d.depth ≤ 64 ∧ d.shown.length ≤ sizeLine := by
  obtain ⟨a, b⟩ := shown_bt d h.1
  have := h.2.1
  have := h.2.2.1
  exact ⟨a, by omega, by rw [sizeLine_eq]; omega⟩
end Lj
set_option Elab.async false
set_option linter.all false
set_option maxRecDepth 100000
set_option pp.maxSteps 500
set_option pp.deepTerms.threshold 8
set_option pp.deepTerms false
namespace Lj
open PySem PySem.Spec PyProof.Rows L2 TL
/-! ### the text of a program -/
def numS (i : Int) : Str := Str.ofString (toString i)
inductive Tk where
  | op (z : Str) (as : List Int)
  | opn (k : Int)
  | cls
def mrg (d : Nat) : Str := Txt.mul "  " (d : Int)
def tkT : Tk → Str
  | .op z as => Txt.join " " (z :: as.map numS)
  | .opn k => "loop " ++ numS k ++ " {"
  | .cls => "}"
def lnT (l : Nat × Tk) : Str := mrg l.1 ++ tkT l.2
mutual
def Tr.lns (d : Nat) : Tr → List (Nat × Tk)
  | .op z as => [(d, .op z as)]
  | .loop k b => (d, .opn k) :: (lns (d + 1) b ++ [(d, .cls)])
def lns (d : Nat) : List Tr → List (Nat × Tk)
  | [] => []
  | t :: b => t.lns d ++ lns d b
end
theorem lns_append (d : Nat) : ∀ a b : List Tr, lns d (a ++ b) = lns d a ++ lns d b
  | [], b => by rw [List.nil_append, lns, List.nil_append]
  | t :: a, b => by rw [List.cons_append, lns, lns_append d a b, lns, List.append_assoc]
theorem lns_one (d : Nat) (t : Tr) : lns d [t] = t.lns d := by rw [lns, lns, List.append_nil]
theorem mrg_tl {d : Nat} (h : d < 9) : tl (mrg d) = List.replicate (2 * d) 32 := by
  have key : ∀ d : Fin 9, tl (mrg d.1) = List.replicate (2 * d.1) 32 := by decide +kernel
  exact key ⟨d, h⟩
/-- what is read: bodies that are open, the innermost one first, and the rounds of their loops -/
abbrev RdS := List (List Tr) × List Int
def rdS : RdS → Nat × Tk → RdS
  | (b :: B, R), (_, .op z as) => ((b ++ [.op z as]) :: B, R)
  | (B, R), (_, .opn k) => ([] :: B, k :: R)
  | (b :: c :: B, k :: R), (_, .cls) => ((c ++ [.loop k b]) :: B, R)
  | s, _ => s
def rdL (s : RdS) (l : List (Nat × Tk)) : RdS := l.foldl rdS s
theorem rdL_app (s : RdS) (a b : List (Nat × Tk)) : rdL s (a ++ b) = rdL (rdL s a) b := List.foldl_append
mutual
theorem Tr.rd (t : Tr) (d : Nat) (c : List Tr) (B : List (List Tr)) (R : List Int) : rdL (c :: B, R) (t.lns d) = ((c ++ [t]) :: B, R) := by
  cases t with
  | op z as =>
    rw [Tr.lns]
    rfl
  | loop k b =>
    rw [Tr.lns]
    show rdL ([] :: c :: B, k :: R) (lns (d + 1) b ++ [(d, .cls)]) = _
    rw [rdL_app, rd_lns b (d + 1) [] (c :: B) (k :: R), List.nil_append]
    rfl
theorem rd_lns (b : List Tr) (d : Nat) (c : List Tr) (B : List (List Tr)) (R : List Int) : rdL (c :: B, R) (lns d b) = ((c ++ b) :: B, R) := by
  cases b with
  | nil =>
    rw [lns, List.append_nil]
    rfl
  | cons t b =>
    rw [lns, rdL_app, Tr.rd t d c B R, rd_lns b d (c ++ [t]) B R, List.append_assoc]
    rfl
end
/-- a line that may stand here -/
def Fits (G : Str → List Int → Prop) : RdS → Nat × Tk → Prop
  | (B, R), (d, .op z as) => B ≠ [] ∧ R.length = d ∧ d ≤ 4 ∧ G z as
  | (B, R), (d, .opn k) => B ≠ [] ∧ R.length = d ∧ d < 4 ∧ 0 ≤ k ∧ k ≤ 10 ^ 18
  | (B, R), (d, .cls) => ∃ b c B' k R', B = b :: c :: B' ∧ R = k :: R' ∧ R'.length = d ∧ d < 4
def AllFit (G : Str → List Int → Prop) : RdS → List (Nat × Tk) → Prop
  | _, [] => True
  | s, l :: ls => Fits G s l ∧ AllFit G (rdS s l) ls
theorem allFit_app {G : Str → List Int → Prop} : ∀ {a b : List (Nat × Tk)} {s : RdS}, AllFit G s a → AllFit G (rdL s a) b → AllFit G s (a ++ b)
  | [], _, _, _, h => h
  | _ :: _, _, _, ⟨h1, h2⟩, h => ⟨h1, allFit_app h2 h⟩
mutual
theorem Tr.fit {G : Str → List Int → Prop} {Rk : Int → Prop} (hR : ∀ k, Rk k → 0 ≤ k ∧ k ≤ 10 ^ 18) (t : Tr) (d e : Nat) (c : List Tr) (B : List (List Tr)) (R : List Int) (h : t.dr G Rk e) (hd : R.length = d) (de : d + e ≤ 4) : AllFit G (c :: B, R) (t.lns d) := by
  cases t with
  | op z as =>
    rw [Tr.dr] at h
    rw [Tr.lns]
    exact ⟨⟨List.cons_ne_nil _ _, hd, by omega, h⟩, trivial⟩
  | loop k b =>
    cases e with
    | zero =>
      rw [Tr.dr] at h
      exact h.elim
    | succ e =>
      rw [Tr.dr] at h
      obtain ⟨h1, h2⟩ := h
      obtain ⟨k0, k1⟩ := hR k h1
      rw [Tr.lns]
      refine ⟨⟨List.cons_ne_nil _ _, hd, by omega, k0, k1⟩, ?_⟩
      show AllFit G ([] :: c :: B, k :: R) (lns (d + 1) b ++ [(d, .cls)])
      refine allFit_app (fit_lns hR b (d + 1) e [] (c :: B) (k :: R) h2 (by rw [List.length_cons, hd]) (by omega)) ?_
      rw [rd_lns]
      exact ⟨⟨_, _, _, _, _, rfl, rfl, hd, by omega⟩, trivial⟩
theorem fit_lns {G : Str → List Int → Prop} {Rk : Int → Prop} (hR : ∀ k, Rk k → 0 ≤ k ∧ k ≤ 10 ^ 18) (b : List Tr) (d e : Nat) (c : List Tr) (B : List (List Tr)) (R : List Int) (h : drs G Rk b e) (hd : R.length = d) (de : d + e ≤ 4) : AllFit G (c :: B, R) (lns d b) := by
  cases b with
  | nil =>
    rw [lns]
    trivial
  | cons t b =>
    rw [drs] at h
    rw [lns]
    refine allFit_app (Tr.fit hR t d e c B R h.1 hd de) ?_
    rw [Tr.rd]
    exact fit_lns hR b d e (c ++ [t]) B R h.2 hd de
end
/-! ### numbers as texts -/
theorem numS_tl {n : Nat} : tl (numS (n : Int)) = numL n := tl_num n
/-! ### words of a line -/
def wds : Tk → List Str
  | .op z as => z :: as.map numS
  | .opn k => ["loop", numS k, "{"]
  | .cls => ["}"]
theorem app_tl (a b : Str) : tl (a ++ b) = tl a ++ tl b := tl_append a b
theorem tk_join (t : Tk) : tkT t = Txt.join " " (wds t) := by
  cases t with
  | op z as => rfl
  | cls => rw [join_eq]; rfl
  | opn k =>
    rw [join_eq]
    refine ext_tl ?_
    show tl ("loop " ++ numS k ++ " {") = tl ((("loop" : Str) ++ " ") ++ ((numS k ++ " ") ++ "{"))
    rw [app_tl, app_tl, app_tl, app_tl, app_tl, app_tl]
    have e1 : tl ("loop " : Str) = tl ("loop" : Str) ++ tl (" " : Str) := by decide +kernel
    have e2 : tl (" {" : Str) = tl (" " : Str) ++ tl ("{" : Str) := by decide +kernel
    rw [e1, e2]
    simp only [List.append_assoc]
theorem w7_free {z : Str} (h : z ∈ W7) : 32 ∉ tl z ∧ 10 ∉ tl z := by
  simp only [W7, List.mem_cons, List.not_mem_nil, or_false] at h
  rcases h with h | h | h | h | h | h | h <;> subst h <;> decide +kernel
/-- what a line may say -/
def TkOk (p n : Int) : Tk → Prop
  | .op z as => GoodOp p n z as
  | .opn k => 0 ≤ k ∧ k ≤ 10 ^ 18
  | .cls => True
theorem good_ints {p n : Int} {z : Str} {as : List Int} (g : GoodOp p n z as) : as.length ≤ 3 ∧ (as = [] → False) ∧ ∀ a ∈ as, 0 ≤ a ∧ (a < n ∨ a < p) := by
  rcases g with ⟨_, x, c, rfl, h1, h2, h3, h4⟩ | ⟨_, x, rfl, h1, h2⟩ | ⟨_, x, y, rfl, h1, h2, h3, h4, h5⟩ | ⟨_, x, y, c, rfl, h1, h2, h3, h4, h5, h6, h7⟩
  · exact ⟨by simp, by simp, fun a ma => by simp only [List.mem_cons, List.not_mem_nil, or_false] at ma; rcases ma with rfl | rfl <;> omega⟩
  · exact ⟨by simp, by simp, fun a ma => by simp only [List.mem_cons, List.not_mem_nil, or_false] at ma; subst ma; omega⟩
  · exact ⟨by simp, by simp, fun a ma => by simp only [List.mem_cons, List.not_mem_nil, or_false] at ma; rcases ma with rfl | rfl <;> omega⟩
  · exact ⟨by simp, by simp, fun a ma => by simp only [List.mem_cons, List.not_mem_nil, or_false] at ma; rcases ma with rfl | rfl | rfl <;> omega⟩
theorem num_free {i : Int} (h : 0 ≤ i) {s : Nat} (hs : s < 48 ∨ 57 < s) : s ∉ tl (numS i) := by
  obtain ⟨n, rfl⟩ : ∃ n : Nat, i = (n : Int) := ⟨i.toNat, by omega⟩
  rw [numS_tl]
  exact numL_free hs
theorem wds_free {p n : Int} {t : Tk} (h : TkOk p n t) : ∀ x ∈ wds t, 32 ∉ tl x ∧ 10 ∉ tl x := by
  cases t with
  | op z as =>
    intro x mx
    rcases List.mem_cons.mp mx with rfl | mx
    · exact w7_free (GoodOp.w7 h)
    · obtain ⟨a, ma, rfl⟩ := List.mem_map.mp mx
      have := (good_ints h).2.2 a ma
      exact ⟨num_free this.1 (.inl (by decide)), num_free this.1 (.inl (by decide))⟩
  | opn k =>
    intro x mx
    simp only [wds, List.mem_cons, List.not_mem_nil, or_false] at mx
    rcases mx with rfl | rfl | rfl
    · decide +kernel
    · exact ⟨num_free h.1 (.inl (by decide)), num_free h.1 (.inl (by decide))⟩
    · decide +kernel
  | cls =>
    intro x mx
    simp only [wds, List.mem_cons, List.not_mem_nil, or_false] at mx
    subst mx
    decide +kernel
theorem join_free {s : Nat} {y : Str} (hy : s ∉ tl y) : ∀ {parts : List Str}, (∀ x ∈ parts, s ∉ tl x) → s ∉ tl (Txt.join y parts)
  | [], _ => by rw [join_eq]; exact List.not_mem_nil
  | [x], h => by rw [join_eq]; exact h x List.mem_cons_self
  | x :: z :: r, h => by
    have ih := join_free hy (parts := z :: r) fun u mu => h u (List.mem_cons_of_mem _ mu)
    rw [join_eq] at ih ⊢
    show s ∉ tl (x ++ y ++ Str.join y (z :: r))
    rw [app_tl, app_tl, List.mem_append, List.mem_append]
    rintro ((m | m) | m)
    · exact h x List.mem_cons_self m
    · exact hy m
    · exact ih m
theorem ln_free {p n : Int} {l : Nat × Tk} (h : TkOk p n l.2) (hd : l.1 < 9) : 10 ∉ tl (lnT l) := by
  unfold lnT
  rw [app_tl, mrg_tl hd, List.mem_append]
  rintro (m | m)
  · have := List.eq_of_mem_replicate m
    omega
  · rw [tk_join] at m
    exact join_free (by decide +kernel) (fun x mx => (wds_free h x mx).2) m
end Lj
set_option Elab.async false
set_option linter.all false
set_option maxRecDepth 100000
set_option pp.maxSteps 500
set_option pp.deepTerms.threshold 8
set_option pp.deepTerms false
namespace Lj
open PySem PySem.Spec PyProof.Rows L2 TL
/-! ### how long the texts are -/
theorem numS_len {i : Int} (h : 0 ≤ i) (h2 : i ≤ 10 ^ 18) : (numS i).length ≤ 19 := by
  obtain ⟨n, rfl⟩ : ∃ n : Nat, i = (n : Int) := ⟨i.toNat, by omega⟩
  rw [len_tl, numS_tl]
  exact numL_len (by decide) (by
    have : (10 : Nat) ^ 18 < 10 ^ 19 := by decide
    omega)
theorem w7_len {z : Str} (h : z ∈ W7) : z.length ≤ 5 := by
  simp only [W7, List.mem_cons, List.not_mem_nil, or_false] at h
  rcases h with h | h | h | h | h | h | h <;> subst h <;> decide +kernel
theorem good_small {p n : Int} (p1 : p ≤ 10007) (n1 : n ≤ 8) {z : Str} {as : List Int} (g : GoodOp p n z as) : ∀ a ∈ as, 0 ≤ a ∧ a ≤ 10 ^ 18 := fun a ma => by
  have := (good_ints g).2.2 a ma
  omega
theorem wds_len {p n : Int} (p1 : p ≤ 10007) (n1 : n ≤ 8) {t : Tk} (h : TkOk p n t) : (∀ x ∈ wds t, x.length ≤ 19) ∧ (wds t).length ≤ 4 := by
  cases t with
  | op z as =>
    refine ⟨fun x mx => ?_, ?_⟩
    · rcases List.mem_cons.mp mx with rfl | mx
      · have := w7_len (GoodOp.w7 h)
        omega
      · obtain ⟨a, ma, rfl⟩ := List.mem_map.mp mx
        obtain ⟨a0, a1⟩ := good_small p1 n1 h a ma
        exact numS_len a0 a1
    · have := (good_ints h).1
      show (as.map numS).length + 1 ≤ 4
      rw [List.length_map]
      omega
  | opn k =>
    refine ⟨fun x mx => ?_, by show 3 ≤ 4; decide⟩
    simp only [wds, List.mem_cons, List.not_mem_nil, or_false] at mx
    rcases mx with rfl | rfl | rfl
    · decide +kernel
    · exact numS_len h.1 h.2
    · decide +kernel
  | cls =>
    refine ⟨fun x mx => ?_, by show 1 ≤ 4; decide⟩
    simp only [wds, List.mem_cons, List.not_mem_nil, or_false] at mx
    subst mx
    decide +kernel
theorem sum_le {B : Nat} : ∀ {l : List Str}, (∀ x ∈ l, x.length ≤ B) → (l.map (·.length)).sum ≤ l.length * B
  | [], _ => Nat.zero_le _
  | x :: l, h => by
    have ih := sum_le (l := l) fun y my => h y (List.mem_cons_of_mem _ my)
    have := h x List.mem_cons_self
    rw [List.map_cons, List.sum_cons, List.length_cons, Nat.succ_mul]
    omega
theorem wds_sum {p n : Int} (p1 : p ≤ 10007) (n1 : n ≤ 8) {t : Tk} (h : TkOk p n t) : ((wds t).map (·.length)).sum ≤ 76 := by
  obtain ⟨a, b⟩ := wds_len p1 n1 h
  have := sum_le a
  have : (wds t).length * 19 ≤ 4 * 19 := Nat.mul_le_mul_right _ b
  omega
theorem tk_len {p n : Int} (p1 : p ≤ 10007) (n1 : n ≤ 8) {t : Tk} (h : TkOk p n t) : (tkT t).length ≤ 80 := by
  rw [tk_join, join_eq]
  have a := StrLaws.join_length_le " " (wds t)
  have b := wds_sum p1 n1 h
  have c := (wds_len p1 n1 h).2
  have d : (" " : Str).length = 1 := by decide +kernel
  rw [d, Nat.mul_one] at a
  omega
theorem app_len (a b : Str) : (a ++ b).length = a.length + b.length := Str.length_append a b
theorem mrg_len {d : Nat} (h : d < 9) : (mrg d).length = 2 * d := by rw [len_tl, mrg_tl h, List.length_replicate]
theorem ln_len {p n : Int} (p1 : p ≤ 10007) (n1 : n ≤ 8) {l : Nat × Tk} (h : TkOk p n l.2) (hd : l.1 < 9) : (lnT l).length ≤ 100 := by
  unfold lnT
  rw [app_len, mrg_len hd]
  have := tk_len p1 n1 h
  omega
mutual
theorem Tr.lns_len (t : Tr) (d : Nat) : (t.lns d).length ≤ 2 * szN [t] := by
  cases t with
  | op z as =>
    rw [Tr.lns, szN_one, Tr.sz]
    show 1 ≤ _
    omega
  | loop k b =>
    rw [Tr.lns, szN_one, Tr.sz, List.length_cons, List.length_append, List.length_singleton]
    have := lns_len b (d + 1)
    omega
theorem lns_len (b : List Tr) (d : Nat) : (lns d b).length ≤ 2 * szN b := by
  cases b with
  | nil =>
    rw [lns]
    exact Nat.zero_le _
  | cons t b =>
    have h1 := Tr.lns_len t d
    have h2 := lns_len b d
    have h3 := szN_append [t] b
    rw [List.singleton_append] at h3
    rw [lns, List.length_append]
    omega
end
mutual
theorem Tr.lns_ok {p n : Int} {Rk : Int → Prop} (hR : ∀ k, Rk k → 0 ≤ k ∧ k ≤ 10 ^ 18) (t : Tr) (d e : Nat) (h : t.dr (GoodOp p n) Rk e) : ∀ l ∈ t.lns d, TkOk p n l.2 ∧ l.1 ≤ d + e := by
  cases t with
  | op z as =>
    rw [Tr.dr] at h
    rw [Tr.lns]
    intro l ml
    rw [List.mem_singleton.mp ml]
    exact ⟨h, by show d ≤ d + e; omega⟩
  | loop k b =>
    cases e with
    | zero => rw [Tr.dr] at h; exact h.elim
    | succ e =>
      rw [Tr.dr] at h
      rw [Tr.lns]
      intro l ml
      rcases List.mem_cons.mp ml with rfl | ml
      · exact ⟨hR k h.1, by show d ≤ d + (e + 1); omega⟩
      rcases List.mem_append.mp ml with ml | ml
      · have := lns_ok hR b (d + 1) e h.2 l ml
        exact ⟨this.1, by omega⟩
      · rw [List.mem_singleton.mp ml]
        exact ⟨trivial, by show d ≤ d + (e + 1); omega⟩
theorem lns_ok {p n : Int} {Rk : Int → Prop} (hR : ∀ k, Rk k → 0 ≤ k ∧ k ≤ 10 ^ 18) (b : List Tr) (d e : Nat) (h : drs (GoodOp p n) Rk b e) : ∀ l ∈ lns d b, TkOk p n l.2 ∧ l.1 ≤ d + e := by
  cases b with
  | nil =>
    rw [lns]
    intro l ml
    cases ml
  | cons t b =>
    rw [drs] at h
    rw [lns]
    intro l ml
    rcases List.mem_append.mp ml with ml | ml
    · exact Tr.lns_ok hR t d e h.1 l ml
    · exact lns_ok hR b d e h.2 l ml
end
/-! ### a text cut behind its margin -/
end Lj
set_option Elab.async false
set_option linter.all false
set_option maxRecDepth 100000
namespace Lj
open PySem PySem.Spec PyProof.Rows L2
section
variable {X : Cx} {k : Nat} {m : Str} {ps : List Str} {f C : Addr} {fd : FuncData} {sp : Sp} {pos apos : PySem.Pos} {o : Expr} {ta : TE}
def tMC0 (C : Addr) (m : Str) (sp : Sp) (ta : TE) : TE := fun σ H Q => ta σ H fun x H1 => ∃ a dx fs, x = .ref a ∧ H1 a = some (.ins C dx fs) ∧ fs.lookup m = none ∧ sp [x] H1 Q E0
/-- o.m() -/
theorem pe_mcal0 {pl : Sem Bool} (c : MCal X.prog X.w X.K X.mg X.base k C m ps f fd sp) (hg : X.A.guards = some []) (hr : Room k X.A) (he : PE X o ta)
    (ht : eval (.Call (.Attribute o m apos) [] [] pos) X.env = (do
      let ov ← eval o X.env
      standAt apos.atName
      let (f, first) ← holding [ov] (getMethod ov m pl)
      callWith pos f first (backTo pos (starEach [] X.env)) (backToKw pos (keywordEach [] X.env))) := by rfl) :
    PE X (.Call (.Attribute o m apos) [] [] pos) (tMC0 C m sp ta) := by
  refine ⟨fun pins s σ H Q I h => ?_⟩
  refine PySem.W.methodCall_KW (pl := pl) (thn (he.run pins s σ H _ I h) fun u s1 ⟨x, H1, I1, rx, a, dx, fs, ex, ea, l, q⟩ => ?_) ht
  subst ex
  obtain rfl : u = Value.ref a := rx
  refine getmeth_ok I1 ea c.cl c.me l ?_
  refine PySem.W.callWith_K0 (first := [.ref a]) I1.kIn c.me.kp ?_
  have r2 : Vals [V.ref a] [Value.ref a] := .cons rfl .nil
  have ln : ([Value.ref a] ++ []).length = ps.length := by
    rw [List.append_nil, ← r2.length]
    exact c.ok.len _ _ _ _ q
  have bd := c.b s1 [Value.ref a] I1.kIn ln
  rw [List.append_nil] at bd
  exact cal_run (ws := []) (s2 := s1) c.ok hg hr I1 bd r2 q
end
end Lj
set_option Elab.async false
set_option linter.all false
set_option maxRecDepth 100000
set_option pp.maxSteps 500
set_option pp.deepTerms.threshold 8
set_option pp.deepTerms false
namespace Lj
open PySem PySem.Spec PyProof.Rows L2
/-! ### the reader as an object -/
def drf (p n : Int) (lb lr : Addr) : List (Str × V) := [("p", .int p), ("n", .int n), ("bodies", .ref lb), ("rounds", .ref lr)]
section
variable {p n : Int} {lb lr : Addr}
theorem drf_p : (drf p n lb lr).lookup ("p" : Str) = some (.int p) := rfl
theorem drf_n : (drf p n lb lr).lookup ("n" : Str) = some (.int n) := rfl
theorem drf_b : (drf p n lb lr).lookup ("bodies" : Str) = some (.ref lb) := rfl
theorem drf_r : (drf p n lb lr).lookup ("rounds" : Str) = some (.ref lr) := rfl
end
structure DTx (K : PySem.W.Frag) (mg : Str → Option Value) (C : Addr) : Prop where
  cl : Cls K C
  nP : NoAttr K C "p"
  nN : NoAttr K C "n"
  nB : NoAttr K C "bodies"
  nR : NoAttr K C "rounds"
/-- the bodies that are open, the innermost one last -/
def BdsAt (K : PySem.W.Frag) (H0 H : Hp) (lb lr : Addr) (bs : List Addr) (B : List (List Tr)) : Prop := Paired (fun a b => H0 a = none ∧ a ≠ lb ∧ a ≠ lr ∧ ∃ us, H a = some (.lst us) ∧ TrsAt K H b us) bs B
def RdAt (K : PySem.W.Frag) (C : Addr) (H0 H : Hp) (x : Addr) (p n : Int) (s : RdS) : Prop :=
  Same H0 H ∧ H0 x = none ∧ ∃ dx lb lr bs, H0 lb = none ∧ H0 lr = none ∧ lb ≠ lr ∧ H x = some (.ins C dx (drf p n lb lr)) ∧ H lb = some (.lst (bs.map V.ref)) ∧ H lr = some (.lst (s.2.reverse.map V.int)) ∧ bs.Nodup ∧ BdsAt K H0 H lb lr bs s.1.reverse
section
variable {K : PySem.W.Frag} {C : Addr} {H0 H H' : Hp} {x lb lr : Addr} {p n : Int} {s : RdS} {bs : List Addr} {B : List (List Tr)}
theorem BdsAt.same (h : BdsAt K H0 H lb lr bs B) (e : Same H H') : BdsAt K H0 H' lb lr bs B := L2.Paired.mapP h fun _ _ ⟨a, b, c, us, d, t⟩ => ⟨a, b, c, us, e _ _ d, TrsAt.kt (Kt.same e) _ _ t⟩
/-- a list other than the bodies is written -/
theorem BdsAt.upd {u : Addr} {l : List V} {o : HO} (h : BdsAt K H0 H lb lr bs B) (hu : H u = some (.lst l)) (nu : u ∉ bs) : BdsAt K H0 (upd H u o) lb lr bs B := by
  have k : Kt H (L2.upd H u o) := Kt.but But.upd hu
  have key : ∀ {bs : List Addr} {B : List (List Tr)}, u ∉ bs → BdsAt K H0 H lb lr bs B → BdsAt K H0 (L2.upd H u o) lb lr bs B := fun {bs B} nu h => by
    induction h with
    | nil => exact .nil
    | cons h t ih =>
      obtain ⟨a1, a2, a3, us, a4, a5⟩ := h
      exact .cons ⟨a1, a2, a3, us, (upd_ne fun e => nu (by rw [← e]; exact List.mem_cons_self)).trans a4, TrsAt.kt k _ _ a5⟩ (ih fun m => nu (List.mem_cons_of_mem _ m))
  exact key nu h
theorem BdsAt.mem_ne (h : BdsAt K H0 H lb lr bs B) {a : Addr} (m : a ∈ bs) : H0 a = none ∧ a ≠ lb ∧ a ≠ lr := by
  induction h with
  | nil => cases m
  | cons h t ih =>
    rcases List.mem_cons.mp m with rfl | m
    · exact ⟨h.1, h.2.1, h.2.2.1⟩
    · exact ih m
theorem RdAt.same (h : RdAt K C H0 H x p n s) (e : Same H H') : RdAt K C H0 H' x p n s := by
  obtain ⟨s0, nx, dx, lb, lr, bs, n1, n2, n3, hx, hb, hr, nd, bd⟩ := h
  exact ⟨s0.trans e, nx, dx, lb, lr, bs, n1, n2, n3, e _ _ hx, e _ _ hb, e _ _ hr, nd, bd.same e⟩
/-- the last of two lists that fit -/
theorem paired_last {α β : Type} {F : α → β → Prop} : ∀ {as : List α} {B : List β} {b : β}, Paired F as (B ++ [b]) → ∃ as' a, as = as' ++ [a] ∧ Paired F as' B ∧ F a b
  | _, [], b, h => by
    cases h with
    | cons h t =>
      cases t
      exact ⟨[], _, rfl, .nil, h⟩
  | _, c :: B, b, h => by
    cases h with
    | cons h t =>
      obtain ⟨as', a, rfl, t', f⟩ := paired_last t
      exact ⟨_ :: as', a, rfl, .cons h t', f⟩
theorem paired_snoc {α β : Type} {F : α → β → Prop} : ∀ {as : List α} {B : List β} {a : α} {b : β}, Paired F as B → F a b → Paired F (as ++ [a]) (B ++ [b])
  | _, _, _, _, .nil, h => .cons h .nil
  | _, _, _, _, .cons h t, f => .cons h (paired_snoc t f)
end
end Lj
set_option Elab.async false
set_option linter.all false
set_option maxRecDepth 100000
set_option pp.maxSteps 500
set_option pp.deepTerms.threshold 8
set_option pp.deepTerms false
namespace Lj
open PySem PySem.Spec PyProof.Rows L2 TL
/-! ### bounds of what is read -/
/-! ### the text is not empty -/
end Lj
set_option Elab.async false
set_option linter.all false
set_option maxRecDepth 100000
set_option pp.maxSteps 500
set_option pp.deepTerms.threshold 8
set_option pp.deepTerms false
namespace Lj
open PySem PySem.Spec PyProof.Rows L2 TL
/-! ### programs drawn are programs -/
mutual
theorem Dp.dd57 {K : PySem.W.Frag} {H : Hp} : ∀ {v : V} {d : PyData}, Dp K H v d → Dd K H v d
  | _, _, .non => .non
  | _, _, .bl b => .bl b
  | _, _, .int i => .int i
  | _, _, .str x => .str x
  | _, _, .lst q r => .lst q (DpAll.dd57 r)
  | _, _, .tup q r => .tup q (DpAll.dd57 r)
theorem DpAll.dd57 {K : PySem.W.Frag} {H : Hp} : ∀ {vs : List V} {ds : List PyData}, DpAll K H vs ds → DdAll K H vs ds
  | _, _, .nil => .nil
  | _, _, .cons h t => .cons (Dp.dd57 h) (DpAll.dd57 t)
end
theorem lxs_ints57 : ∀ as : List Int, lxs (as.map PyData.int) = 0
  | [] => rfl
  | a :: as => by
    rw [List.map_cons, lxs, lxs_ints57 as]
    rfl
theorem datTs_len : ∀ b : List Tr, (datTs b).length = b.length
  | [] => rfl
  | t :: b => by rw [datTs, List.length_cons, List.length_cons, datTs_len b]
theorem len_szN : ∀ b : List Tr, b.length ≤ szN b
  | [] => Nat.le_refl _
  | t :: b => by
    have := len_szN b
    have := Tr.sz_pos t
    rw [szN, List.length_cons]
    omega
mutual
theorem Tr.sz_inn : ∀ t : Tr, (t.sz : Int) = 1 + t.inn
  | .op z as => rfl
  | .loop k b => by
    have := szN_szs b
    rw [Tr.sz, Tr.inn]
    show ((1 + szN b : Nat) : Int) = 1 + szs b
    omega
theorem szN_szs : ∀ b : List Tr, (szN b : Int) = szs b
  | [] => rfl
  | t :: b => by
    have h1 := Tr.sz_inn t
    have h2 := szN_szs b
    rw [szs] at h2
    rw [szN, szs, inns, List.length_cons]
    omega
end
section
variable {p n : Int} {Rk : Int → Prop}
mutual
theorem Tr.lx_le : ∀ (t : Tr) (e : Nat), t.dr (GoodOp p n) Rk e → lx t.datT ≤ t.sz + 4
  | .op z as, e, h => by
    rw [Tr.dr] at h
    have := (good_ints h).1
    rw [Tr.datT, lx, lxs, lxs_ints57, List.length_cons, List.length_map]
    show max (as.length + 1) (max 0 0) ≤ _
    omega
  | .loop k b, 0, h => by
    rw [Tr.dr] at h
    exact h.elim
  | .loop k b, e + 1, h => by
    rw [Tr.dr] at h
    have ih := lxs_le b e h.2
    have l1 := len_szN b
    rw [Tr.datT, lx, lxs, lxs, lxs, lxs, lx, datTs_len, Tr.sz]
    show max 3 (max 0 (max 0 (max (max b.length (lxs (datTs b))) 0))) ≤ _
    omega
theorem lxs_le : ∀ (b : List Tr) (e : Nat), drs (GoodOp p n) Rk b e → lxs (datTs b) ≤ szN b + 4
  | [], e, h => by
    rw [datTs, lxs]
    omega
  | t :: b, e, h => by
    rw [drs] at h
    have h1 := Tr.lx_le t e h.1
    have h2 := lxs_le b e h.2
    rw [datTs, lxs, szN]
    omega
end
theorem lx_prog {b : List Tr} {e : Nat} (h : drs (GoodOp p n) Rk b e) : lx (.tuple (datTs b)) ≤ szN b + 4 := by
  have h1 := lxs_le b e h
  have h2 := len_szN b
  rw [lx, datTs_len]
  omega
mutual
theorem Tr.oki (hR : ∀ k, Rk k → 0 ≤ k ∧ k ≤ 10 ^ 18) (hg : ∀ z as, GoodOp p n z as → okI p n 0 (.tuple (.str z :: as.map .int)) = true) : ∀ (t : Tr) (e : Nat), t.dr (GoodOp p n) Rk e → okI p n e t.datT = true
  | .op z as, e, h => by
    rw [Tr.dr] at h
    have g := hg z as h
    have nl : z ≠ "loop" := fun e => by
      have w := GoodOp.w7 h
      rw [e] at w
      exact absurd w (by decide +kernel)
    rw [Tr.datT]
    have g : (if z = "loop" then false else match shp z with | none => false | some s => shapeD p n s (as.map .int)) = true := g
    rw [if_neg nl] at g
    cases e with
    | zero =>
      show (if z = "loop" then false else match shp z with | none => false | some s => shapeD p n s (as.map .int)) = true
      rw [if_neg nl]
      exact g
    | succ e =>
      show (if z = "loop" then lpD p (okI p n e) (as.map .int) else match shp z with | none => false | some s => shapeD p n s (as.map .int)) = true
      rw [if_neg nl]
      exact g
  | .loop k b, 0, h => by
    rw [Tr.dr] at h
    exact h.elim
  | .loop k b, e + 1, h => by
    rw [Tr.dr] at h
    have ih := okbl hR hg b e h.2
    obtain ⟨k0, k1⟩ := hR k h.1
    rw [Tr.datT]
    show (if ("loop" : Str) = "loop" then (isBd 0 (10 ^ 18) (.int k) && (datTs b).all (okI p n e)) else match shp "loop" with | none => false | some s => shapeD p n s [.int k, .tuple (datTs b)]) = true
    rw [if_pos rfl, ih, Bool.and_true]
    show (decide (0 ≤ k) && decide (k ≤ 10 ^ 18)) = true
    rw [decide_eq_true k0, decide_eq_true k1]
    rfl
theorem okbl (hR : ∀ k, Rk k → 0 ≤ k ∧ k ≤ 10 ^ 18) (hg : ∀ z as, GoodOp p n z as → okI p n 0 (.tuple (.str z :: as.map .int)) = true) : ∀ (b : List Tr) (e : Nat), drs (GoodOp p n) Rk b e → (datTs b).all (okI p n e) = true
  | [], e, h => rfl
  | t :: b, e, h => by
    rw [drs] at h
    rw [datTs, List.all_cons, Tr.oki hR hg t e h.1, okbl hR hg b e h.2]
    rfl
end
end
end Lj
set_option Elab.async false
set_option linter.all false
set_option maxRecDepth 100000
set_option pp.maxSteps 500
set_option pp.deepTerms.threshold 8
set_option pp.deepTerms false
namespace Lj
open PySem PySem.Spec PyProof.Rows L2 TL
/-! ### loops once, and what is executed then -/
mutual
def Tr.onc : Tr → Tr
  | .op z as => .op z as
  | .loop _ b => .loop 1 (oncs b)
def oncs : List Tr → List Tr
  | [] => []
  | t :: b => t.onc :: oncs b
end
mutual
def Tr.flt : Tr → List (Str × List Int)
  | .op z as => [(z, as)]
  | .loop _ b => flt b
def flt : List Tr → List (Str × List Int)
  | [] => []
  | t :: b => t.flt ++ flt b
end
theorem oncs_append : ∀ a b : List Tr, oncs (a ++ b) = oncs a ++ oncs b
  | [], b => rfl
  | t :: a, b => by rw [List.cons_append, oncs, oncs, oncs_append a b, List.cons_append]
theorem flt_append : ∀ a b : List Tr, flt (a ++ b) = flt a ++ flt b
  | [], b => rfl
  | t :: a, b => by rw [List.cons_append, flt, flt, flt_append a b, List.append_assoc]
mutual
theorem Tr.flt_onc : ∀ t : Tr, t.onc.flt = t.flt
  | .op z as => rfl
  | .loop k b => by rw [Tr.onc, Tr.flt, Tr.flt, flt_oncs b]
theorem flt_oncs : ∀ b : List Tr, flt (oncs b) = flt b
  | [] => rfl
  | t :: b => by rw [oncs, flt, flt, Tr.flt_onc t, flt_oncs b]
end
mutual
theorem Tr.sz_onc : ∀ t : Tr, t.onc.sz = t.sz
  | .op z as => rfl
  | .loop k b => by rw [Tr.onc, Tr.sz, Tr.sz, szN_oncs b]
theorem szN_oncs : ∀ b : List Tr, szN (oncs b) = szN b
  | [] => rfl
  | t :: b => by rw [oncs, szN, szN, Tr.sz_onc t, szN_oncs b]
end
mutual
theorem Tr.flt_len : ∀ t : Tr, t.flt.length ≤ t.sz
  | .op z as => Nat.le_refl _
  | .loop k b => by
    have := flt_len b
    rw [Tr.flt, Tr.sz]
    omega
theorem flt_len : ∀ b : List Tr, (flt b).length ≤ szN b
  | [] => Nat.le_refl _
  | t :: b => by
    have h1 := Tr.flt_len t
    have h2 := flt_len b
    rw [flt, szN, List.length_append]
    omega
end
def Rk1 : Int → Prop := fun k => k = 1
section
variable {G : Str → List Int → Prop} {Rk : Int → Prop}
mutual
theorem Tr.dr_onc : ∀ (t : Tr) (e : Nat), t.dr G Rk e → t.onc.dr G Rk1 e
  | .op z as, e, h => by
    rw [Tr.dr] at h
    rw [Tr.onc, Tr.dr]
    exact h
  | .loop k b, 0, h => by
    rw [Tr.dr] at h
    exact h.elim
  | .loop k b, e + 1, h => by
    rw [Tr.dr] at h
    rw [Tr.onc, Tr.dr]
    exact ⟨rfl, drs_onc b e h.2⟩
theorem drs_onc : ∀ (b : List Tr) (e : Nat), drs G Rk b e → drs G Rk1 (oncs b) e
  | [], e, h => by
    rw [oncs, drs]
    trivial
  | t :: b, e, h => by
    rw [drs] at h
    rw [oncs, drs]
    exact ⟨Tr.dr_onc t e h.1, drs_onc b e h.2⟩
end
end
mutual
theorem Tr.cnt_zero {z : Str} : ∀ t : Tr, (∀ x ∈ t.flt, x.1 ≠ z) → t.cnt z = 0
  | .op y as, h => by
    have := h (y, as) (by rw [Tr.flt]; exact List.mem_singleton.mpr rfl)
    rw [Tr.cnt, if_neg this]
  | .loop k b, h => by
    rw [Tr.flt] at h
    rw [Tr.cnt, cnts_zero b h, Int.mul_zero]
theorem cnts_zero {z : Str} : ∀ b : List Tr, (∀ x ∈ flt b, x.1 ≠ z) → cnts z b = 0
  | [], h => rfl
  | t :: b, h => by
    rw [flt] at h
    rw [cnts, Tr.cnt_zero t fun x m => h x (List.mem_append_left _ m), cnts_zero b fun x m => h x (List.mem_append_right _ m)]
    rfl
end
end Lj
set_option Elab.async false
set_option linter.all false
set_option maxRecDepth 100000
set_option pp.maxSteps 500
set_option pp.deepTerms.threshold 8
set_option pp.deepTerms false
namespace Lj
open PySem PySem.Spec PyProof.Rows L2 TL
/-! ### what the law draws: sizes -/
def zsz : Nat → Nat
  | 0 => 1
  | l + 1 => 1 + 2 * zsz l
def csz : Nat → Nat
  | 0 => 1
  | l + 1 => 4 * csz l
def wsz : Nat → Nat
  | 0 => 40
  | l + 1 => 5 * wsz l
def piz : Nat → Nat
  | 0 => 8
  | l + 1 => wsz l + 8
theorem wsz_40 : ∀ l, 40 ≤ wsz l
  | 0 => Nat.le_refl _
  | l + 1 => by
    have := wsz_40 l
    rw [wsz]
    omega
theorem zsz_1 : ∀ l, 1 ≤ zsz l
  | 0 => Nat.le_refl _
  | l + 1 => by
    rw [zsz]
    omega
theorem csz_1 : ∀ l, 1 ≤ csz l
  | 0 => Nat.le_refl _
  | l + 1 => by
    have := csz_1 l
    rw [csz]
    omega
theorem piz_8 : ∀ l, 8 ≤ piz l
  | 0 => Nat.le_refl _
  | l + 1 => by
    rw [piz]
    omega
theorem piz_wsz {l L : Nat} (h : L ≤ 4) : 1 + L * piz l ≤ wsz l := by
  have h1 : L * piz l ≤ 4 * piz l := Nat.mul_le_mul_right _ h
  cases l with
  | zero =>
    have e : piz 0 = 8 := rfl
    have e2 : wsz 0 = 40 := rfl
    rw [e] at h1 ⊢
    rw [e2]
    omega
  | succ l =>
    have := wsz_40 l
    rw [piz] at h1 ⊢
    rw [wsz]
    omega
structure Nb (p n : Int) (b : List Tr) (L lv : Nat) : Prop where
  dr : drs (GoodOp p n) (fun k => 0 ≤ k ∧ k ≤ 10 ^ 18) b lv
  len : b.length = L
  sz : szN b ≤ L * zsz lv
  r0 : 0 ≤ cnts "read" b
  r1 : cnts "read" b ≤ ((L * csz lv : Nat) : Int)
  w0 : 0 ≤ cnts "write" b
  w1 : cnts "write" b ≤ ((L * csz lv : Nat) : Int)
theorem cnts_app57 (z : Str) : ∀ a b : List Tr, cnts z (a ++ b) = cnts z a + cnts z b
  | [], b => by rw [List.nil_append, cnts, Int.zero_add]
  | t :: a, b => by rw [List.cons_append, cnts, cnts, cnts_app57 z a b, Int.add_assoc]
theorem drs_app57 {G : Str → List Int → Prop} {Rk : Int → Prop} {e : Nat} : ∀ {a b : List Tr}, drs G Rk a e → drs G Rk b e → drs G Rk (a ++ b) e
  | [], b, _, h => h
  | t :: a, b, h1, h2 => by
    rw [drs] at h1
    rw [List.cons_append, drs]
    exact ⟨h1.1, drs_app57 h1.2 h2⟩
theorem Nb.nil {p n : Int} {lv : Nat} : Nb p n [] 0 lv := ⟨by rw [drs]; trivial, rfl, Nat.zero_le _, Int.le_refl _, by show (0 : Int) ≤ _; omega, Int.le_refl _, by show (0 : Int) ≤ _; omega⟩
theorem cnt_op57 (z y : Str) (as : List Int) : 0 ≤ (Tr.op y as).cnt z ∧ (Tr.op y as).cnt z ≤ 1 := by
  rw [Tr.cnt]
  by_cases h : y = z
  · rw [if_pos h]
    omega
  · rw [if_neg h]
    omega
theorem one_cnts (z : Str) (t : Tr) : cnts z [t] = t.cnt z := by rw [cnts, cnts, Int.add_zero]
theorem one_drs {G : Str → List Int → Prop} {Rk : Int → Prop} {e : Nat} {t : Tr} (h : t.dr G Rk e) : drs G Rk [t] e := by
  rw [drs, drs]
  exact ⟨h, trivial⟩
theorem Nb.op {p n : Int} {b : List Tr} {L lv : Nat} (h : Nb p n b L lv) {z : Str} {as : List Int} (g : GoodOp p n z as) : Nb p n (b ++ [.op z as]) (L + 1) lv := by
  obtain ⟨a1, a2⟩ := cnt_op57 "read" z as
  obtain ⟨b1, b2⟩ := cnt_op57 "write" z as
  have c1 := csz_1 lv
  have z1 := zsz_1 lv
  have e1 : (L + 1) * csz lv = L * csz lv + csz lv := Nat.succ_mul _ _
  have e2 : (L + 1) * zsz lv = L * zsz lv + zsz lv := Nat.succ_mul _ _
  obtain ⟨h1, h2, h3, h4, h5, h6, h7⟩ := h
  refine ⟨drs_app57 h1 (one_drs (by rw [Tr.dr]; exact g)), by rw [List.length_append, h2]; rfl, ?_, ?_, ?_, ?_, ?_⟩
  · rw [szN_append, szN_one, e2]
    show szN b + 1 ≤ _
    omega
  · rw [cnts_app57, one_cnts]
    omega
  · rw [cnts_app57, one_cnts, e1]
    omega
  · rw [cnts_app57, one_cnts]
    omega
  · rw [cnts_app57, one_cnts, e1]
    omega
theorem loop_few {k c : Int} {m : Nat} (k0 : 0 ≤ k) (c0 : 0 ≤ c) (c1 : c ≤ ((2 * m : Nat) : Int)) (h : k ≤ 2 ∨ c = 0) : 0 ≤ k * c ∧ k * c ≤ ((4 * m : Nat) : Int) := by
  refine ⟨Int.mul_nonneg k0 c0, ?_⟩
  rcases h with h | h
  · have h1 : k * c ≤ 2 * ((2 * m : Nat) : Int) := Int.mul_le_mul h c1 c0 (by omega)
    omega
  · rw [h, Int.mul_zero]
    omega
theorem Nb.loop {p n : Int} {b b' : List Tr} {L L' lv : Nat} (h : Nb p n b L (lv + 1)) (h' : Nb p n b' L' lv) (l2 : L' ≤ 2) {k : Int} (k0 : 0 ≤ k) (k1 : k ≤ 10 ^ 18) (hr : k ≤ 2 ∨ cnts "read" b' = 0) (hw : k ≤ 2 ∨ cnts "write" b' = 0) : Nb p n (b ++ [.loop k b']) (L + 1) (lv + 1) := by
  obtain ⟨h1, h2, h3, h4, h5, h6, h7⟩ := h
  obtain ⟨i1, i2, i3, i4, i5, i6, i7⟩ := h'
  have m1 : L' * csz lv ≤ 2 * csz lv := Nat.mul_le_mul_right _ l2
  have m2 : L' * zsz lv ≤ 2 * zsz lv := Nat.mul_le_mul_right _ l2
  obtain ⟨a1, a2⟩ := loop_few (m := csz lv) k0 i4 (by omega) hr
  obtain ⟨b1, b2⟩ := loop_few (m := csz lv) k0 i6 (by omega) hw
  have e1 : (L + 1) * csz (lv + 1) = L * csz (lv + 1) + csz (lv + 1) := Nat.succ_mul _ _
  have e2 : (L + 1) * zsz (lv + 1) = L * zsz (lv + 1) + zsz (lv + 1) := Nat.succ_mul _ _
  have e3 : csz (lv + 1) = 4 * csz lv := rfl
  have e4 : zsz (lv + 1) = 1 + 2 * zsz lv := rfl
  refine ⟨drs_app57 h1 (one_drs (by rw [Tr.dr]; exact ⟨⟨k0, k1⟩, i1⟩)), by rw [List.length_append, h2]; rfl, ?_, ?_, ?_, ?_, ?_⟩
  · rw [szN_append, szN_one, e2, Tr.sz]
    omega
  · rw [cnts_app57, one_cnts, Tr.cnt]
    omega
  · rw [cnts_app57, one_cnts, Tr.cnt, e1]
    omega
  · rw [cnts_app57, one_cnts, Tr.cnt]
    omega
  · rw [cnts_app57, one_cnts, Tr.cnt, e1]
    omega
end Lj
set_option Elab.async false
set_option linter.all false
set_option maxRecDepth 100000
set_option pp.maxSteps 500
set_option pp.deepTerms.threshold 8
set_option pp.deepTerms false
namespace Lj
open PySem PySem.Spec PyProof.Rows L2 TL
/-! ### any text, cut at a sign -/
def cutL (s : Nat) : List Nat → List (List Nat)
  | [] => [[]]
  | c :: l => if c = s then [] :: cutL s l else match cutL s l with
    | [] => [[c]]
    | h :: t => (c :: h) :: t
theorem cutL_ne (s : Nat) : ∀ l, cutL s l ≠ []
  | [] => by rw [cutL]; exact List.cons_ne_nil _ _
  | c :: l => by
    rw [cutL]
    split
    · exact List.cons_ne_nil _ _
    · split <;> exact List.cons_ne_nil _ _
theorem cutL_free (s : Nat) : ∀ l, ∀ p ∈ cutL s l, s ∉ p
  | [], p, h => by
    rw [cutL] at h
    rw [List.mem_singleton.mp h]
    exact List.not_mem_nil
  | c :: l, p, h => by
    have ih := cutL_free s l
    rw [cutL] at h
    split at h
    · rcases List.mem_cons.mp h with rfl | h
      · exact List.not_mem_nil
      · exact ih p h
    · rename_i hc
      split at h
      · rw [List.mem_singleton.mp h]
        exact fun m => hc (List.mem_singleton.mp m).symm
      · rename_i a t e
        rw [e] at ih
        rcases List.mem_cons.mp h with rfl | h
        · intro m
          rcases List.mem_cons.mp m with m | m
          · exact hc m.symm
          · exact ih a List.mem_cons_self m
        · exact ih p (List.mem_cons_of_mem _ h)
theorem cutL_join (s : Nat) : ∀ l, joinL [s] (cutL s l) = l
  | [] => rfl
  | c :: l => by
    have ih := cutL_join s l
    have ne := cutL_ne s l
    rw [cutL]
    split
    · rename_i e
      subst e
      cases hh : cutL c l with
      | nil => exact absurd hh ne
      | cons a t =>
        rw [hh] at ih
        show [] ++ ([c] ++ joinL [c] (a :: t)) = _
        rw [ih]
        rfl
    · cases hh : cutL s l with
      | nil => exact absurd hh ne
      | cons a t =>
        rw [hh] at ih
        cases t with
        | nil =>
          have ih : a = l := ih
          subst ih
          rfl
        | cons b t =>
          show (c :: a) ++ ([s] ++ joinL [s] (b :: t)) = _
          have ih : a ++ ([s] ++ joinL [s] (b :: t)) = l := ih
          rw [← ih]
          rfl
theorem spl_cutL (s : Nat) (l : List Nat) : spl [s] 0 [] l = cutL s l := by
  have := spl_join (S := []) (cutL_ne s l) (cutL_free s l)
  rw [cutL_join] at this
  exact this
theorem cutL_len (s : Nat) : ∀ l, (cutL s l).length = l.count s + 1
  | [] => rfl
  | c :: l => by
    have ih := cutL_len s l
    rw [cutL]
    split
    · rename_i e
      subst e
      rw [List.length_cons, ih, List.count_cons_self]
    · rename_i e
      rw [List.count_cons_of_ne e]
      cases hh : cutL s l with
      | nil => exact absurd hh (cutL_ne s l)
      | cons a t =>
        rw [hh] at ih
        exact ih
theorem cutL_sum (s : Nat) : ∀ l, ((cutL s l).map List.length).sum + l.count s = l.length
  | [] => rfl
  | c :: l => by
    have ih := cutL_sum s l
    rw [cutL]
    split
    · rename_i e
      subst e
      rw [List.map_cons, List.sum_cons, List.count_cons_self, List.length_nil, List.length_cons]
      omega
    · rename_i e
      rw [List.count_cons_of_ne e]
      cases hh : cutL s l with
      | nil => exact absurd hh (cutL_ne s l)
      | cons a t =>
        rw [hh, List.map_cons, List.sum_cons] at ih
        show (((c :: a) :: t).map List.length).sum + _ = _
        rw [List.map_cons, List.sum_cons, List.length_cons, List.length_cons]
        omega
section
variable {x y : Str} {s : Nat}
theorem split_cut (ey : tl y = [s]) (hk : y.cps.all (· < 256) = true) : (Txt.split x y).map tl = cutL s (tl x) := by
  rw [split_spl _ y (by rw [ey]; simp) (kind_ok hk), ey]
  exact spl_cutL s (tl x)
theorem split_count (ey : tl y = [s]) (hk : y.cps.all (· < 256) = true) : (Txt.split x y).length = (tl x).count s + 1 := by
  have := congrArg List.length (split_cut (x := x) ey hk)
  rw [List.length_map, cutL_len] at this
  exact this
theorem split_free (ey : tl y = [s]) (hk : y.cps.all (· < 256) = true) : ∀ z ∈ Txt.split x y, s ∉ tl z := fun z mz => by
  refine cutL_free s (tl x) _ ?_
  rw [← split_cut ey hk]
  exact List.mem_map.mpr ⟨z, mz, rfl⟩
theorem split_sum (ey : tl y = [s]) (hk : y.cps.all (· < 256) = true) : ((Txt.split x y).map (·.length)).sum + (tl x).count s = x.length := by
  have h := cutL_sum s (tl x)
  rw [← split_cut ey hk, List.map_map] at h
  have e : (Txt.split x y).map (List.length ∘ tl) = (Txt.split x y).map (·.length) := List.map_congr_left fun a _ => (len_tl a).symm
  rw [e] at h
  rw [len_tl x]
  exact h
theorem mem_le_sum : ∀ {l : List Str} {z : Str}, z ∈ l → z.length ≤ (l.map (·.length)).sum
  | a :: l, z, h => by
    rw [List.map_cons, List.sum_cons]
    rcases List.mem_cons.mp h with rfl | h
    · omega
    · have := mem_le_sum h
      omega
theorem split_short (ey : tl y = [s]) (hk : y.cps.all (· < 256) = true) : ∀ z ∈ Txt.split x y, z.length ≤ x.length := fun z mz => by
  have h1 := mem_le_sum mz
  have h2 := split_sum (x := x) ey hk
  omega
theorem split_few (ey : tl y = [s]) (hk : y.cps.all (· < 256) = true) : (Txt.split x y).length ≤ x.length + 1 := by
  have h1 := split_count (x := x) ey hk
  have h2 := split_sum (x := x) ey hk
  omega
theorem split_some (ey : tl y = [s]) (hk : y.cps.all (· < 256) = true) : Txt.split x y ≠ [] := fun e => by
  have h1 := split_count (x := x) ey hk
  rw [e] at h1
  cases h1
end
theorem nl_tl : tl ("\n" : Str) = [10] := by decide +kernel
theorem nl_hk : ("\n" : Str).cps.all (· < 256) = true := by decide +kernel
theorem sp_tl : tl (" " : Str) = [32] := by decide +kernel
theorem sp_hk : (" " : Str).cps.all (· < 256) = true := by decide +kernel
/-- how many line feeds stand in a text -/
def cnl (x : Str) : Nat := (tl x).count 10
theorem cnl_app (a b : Str) : cnl (a ++ b) = cnl a + cnl b := by
  unfold cnl
  rw [app_tl, List.count_append]
/-- joined parts without line feeds -/
theorem join_cnl : ∀ {l : List Str}, (∀ z ∈ l, 10 ∉ tl z) → cnl (Txt.join "\n" l) ≤ l.length - 1
  | [], _ => by rw [join_eq]; exact Nat.zero_le _
  | [a], h => by
    rw [join_eq]
    have : cnl a = 0 := List.count_eq_zero_of_not_mem (h a List.mem_cons_self)
    show cnl a ≤ _
    omega
  | a :: b :: r, h => by
    have ih := join_cnl (l := b :: r) fun z mz => h z (List.mem_cons_of_mem _ mz)
    rw [join_eq] at ih ⊢
    show cnl (a ++ "\n" ++ Str.join "\n" (b :: r)) ≤ _
    rw [cnl_app, cnl_app]
    have h1 : cnl a = 0 := List.count_eq_zero_of_not_mem (h a List.mem_cons_self)
    have h2 : cnl "\n" = 1 := by unfold cnl; rw [nl_tl]; rfl
    rw [List.length_cons] at ih ⊢
    rw [List.length_cons]
    omega
theorem join_short (l : List Str) : (Txt.join "\n" l).length ≤ (l.map (·.length)).sum + l.length := by
  have a := StrLaws.join_length_le "\n" l
  have d1 : ("\n" : Str).length = 1 := by decide +kernel
  rw [d1, Nat.mul_one] at a
  rw [join_eq]
  exact a
/-! ### any word, read as a number -/
def isDig (c : Nat) : Bool := decide (48 ≤ c) && decide (c ≤ 57)
def valL (l : List Nat) : Nat := l.foldl (fun a c => 10 * a + (c - 48)) 0
theorem valL_snoc (l : List Nat) (c : Nat) : valL (l ++ [c]) = 10 * valL l + (c - 48) := by
  unfold valL
  rw [List.foldl_append]
  rfl
theorem numL_val : ∀ (k : Nat) (l : List Nat), l.length = k → l ≠ [] → l.all isDig = true → (l.head? = some 48 → l = [48]) → numL (valL l) = l
  | 0, l, e, ne, _, _ => absurd (List.length_eq_zero_iff.mp e) ne
  | k + 1, l, e, ne, ad, hz => by
    obtain ⟨l', c, rfl⟩ : ∃ l' c, l = l' ++ [c] := ⟨l.dropLast, l.getLast ne, (List.dropLast_concat_getLast ne).symm⟩
    rw [List.all_append, Bool.and_eq_true] at ad
    obtain ⟨ad, hc⟩ := ad
    have hc : isDig c = true := by
      rw [List.all_cons, List.all_nil, Bool.and_true] at hc
      exact hc
    unfold isDig at hc
    rw [Bool.and_eq_true, decide_eq_true_eq, decide_eq_true_eq] at hc
    rw [valL_snoc]
    cases hl : l' with
    | nil =>
      subst hl
      have : 10 * valL [] + (c - 48) = c - 48 := by
        show 10 * 0 + (c - 48) = _
        omega
      rw [this, numL_lt (by omega), List.nil_append]
      have : 48 + (c - 48) = c := by omega
      rw [this]
    | cons a r =>
      rw [← hl]
      have hne : l' ≠ [] := by rw [hl]; exact List.cons_ne_nil _ _
      have hh : (l' ++ [c]).head? = l'.head? := by
        rw [hl]
        rfl
      rw [hh] at hz
      have hz' : l'.head? = some 48 → l' = [48] := fun h => by
        have := hz h
        have := congrArg List.length this
        rw [List.length_append, hl] at this
        simp at this
      have n48 : l' ≠ [48] := fun h => by
        have := hz (by rw [h]; rfl)
        have := congrArg List.length this
        rw [List.length_append, hl] at this
        simp at this
      have ih := numL_val k l' (by rw [List.length_append] at e; simpa using e) hne ad hz'
      have v1 : valL l' ≠ 0 := fun h => by
        rw [h, numL_lt (by decide)] at ih
        exact n48 ih.symm
      rw [numL_step (by omega)]
      have e1 : (10 * valL l' + (c - 48)) / 10 = valL l' := by omega
      have e2 : (10 * valL l' + (c - 48)) % 10 = c - 48 := by omega
      rw [e1, e2, ih]
      have : 48 + (c - 48) = c := by omega
      rw [this]
def nmK (m : Nat) (w : Str) : Option Int :=
  if tl w = [] ∨ m < (tl w).length ∨ ¬ (tl w).all isDig = true then none
  else if (tl w).head? = some 48 ∧ tl w ≠ [48] then none else some (valL (tl w) : Int)
theorem nmK_some {m : Nat} {w : Str} {i : Int} (h : nmK m w = some i) : ∃ n : Nat, i = n ∧ w = numS (n : Int) ∧ (tl w).length ≤ m ∧ numL n = tl w := by
  unfold nmK at h
  split at h
  · cases h
  rename_i h1
  split at h
  · cases h
  rename_i h2
  rw [not_or, not_or, Decidable.not_not] at h1
  obtain ⟨a1, a2, a3⟩ := h1
  have e := numL_val (tl w).length (tl w) rfl a1 a3 fun hh => Decidable.byContradiction fun c => h2 ⟨hh, c⟩
  refine ⟨valL (tl w), (Option.some.inj h).symm, ext_tl ?_, by omega, e⟩
  rw [numS_tl, e]
theorem nmK_mono {m k : Nat} (l : m ≤ k) {w : Str} {i : Int} (h : nmK m w = some i) : nmK k w = some i := by
  unfold nmK at h ⊢
  split at h
  · cases h
  rename_i h1
  rw [if_neg (fun c => h1 (by rcases c with c | c | c; exact .inl c; exact .inr (.inl (by omega)); exact .inr (.inr c)))]
  exact h
theorem nmK_small {w : Str} {i : Int} (h : nmK 80 w = some i) (b : i ≤ 10 ^ 18) : nmK 30 w = some i := by
  obtain ⟨n, rfl, _, _, e⟩ := nmK_some h
  have l : (numL n).length ≤ 30 := numL_len (by decide) (by
    have : (10 : Nat) ^ 18 < 10 ^ 30 := by decide
    omega)
  unfold nmK at h ⊢
  split at h
  · cases h
  rename_i h1
  rw [if_neg (fun c => h1 (by rcases c with c | c | c; exact .inl c; exact absurd c (by rw [← e]; omega); exact .inr (.inr c)))]
  exact h
theorem nmK_nn {m : Nat} {w : Str} {i : Int} (h : nmK m w = some i) : 0 ≤ i := by
  obtain ⟨n, rfl, _⟩ := nmK_some h
  omega
end Lj
set_option Elab.async false
set_option linter.all false
set_option maxRecDepth 100000
set_option pp.maxSteps 500
set_option pp.deepTerms.threshold 8
set_option pp.deepTerms false
namespace Lj
open PySem PySem.Spec PyProof.Rows L2 TL
/-! ### reading any text -/
def R18 : Int → Prop := fun k => 0 ≤ k ∧ k ≤ 10 ^ 18
def oD : Option Int → PyData
  | none => .none
  | some i => .int i
def stpOk (p n : Int) (z : Str) (os : List (Option Int)) : Bool := okI p n 0 (.tuple (.str z :: os.map oD))
def opnTk (d : Nat) : List Str → Option Tk
  | [a, b] => if b = "{" ∧ d ≠ 4 then (match nmK 80 a with
    | some k => if k ≤ 10 ^ 18 then some (.opn k) else none
    | none => none) else none
  | _ => none
def wdTk (p n : Int) (d : Nat) : List Str → Option Tk
  | [] => none
  | z :: us => if z = "loop" then opnTk d us else if stpOk p n z (us.map (nmK 80)) = true then some (.op z ((us.map (nmK 80)).filterMap id)) else none
def lnTk (p n : Int) (d : Nat) (x : Str) : Option Tk :=
  if d ≠ 0 ∧ x = mrg (d - 1) ++ "}" then some .cls
  else if Txt.startswith x (mrg d) = true then wdTk p n d (Txt.split (cutS x (some ((2 * d : Nat) : Int)) none) " ") else none
def rdI (p n : Int) : RdS → Nat → List Str → RdS ⊕ Nat
  | S, _, [] => .inl S
  | S, i, x :: r => match lnTk p n S.2.length x with
    | none => .inr i
    | some t => rdI p n (rdS S (0, t)) (i + 1) r
def lnsOf (x : Str) : List Str := if x = "" then [] else Txt.split x "\n"
def wit (b : List Tr) : Bool := decide (szs b ≤ 200) && (decide (cnts "read" b ≤ 2000) && decide (cnts "write" b ≤ 2000))
def endP (m : Nat) : RdS → List Tr ⊕ Nat
  | (b :: _, []) => if wit b = true then .inl b else .inr 0
  | _ => .inr m
def rdP (p n : Int) (x : Str) : List Tr ⊕ Nat :=
  match rdI p n ([[]], []) 0 (lnsOf x) with
  | .inr i => .inr i
  | .inl S => endP (lnsOf x).length S
section
variable {p n : Int}
theorem rdI_snoc : ∀ (a : List Str) (x : Str) (S : RdS) (j : Nat), rdI p n S j (a ++ [x]) = (match rdI p n S j a with
    | .inr q => .inr q
    | .inl S' => match lnTk p n S'.2.length x with
      | none => .inr (j + a.length)
      | some t => .inl (rdS S' (0, t)))
  | [], x, S, j => by
    rw [List.nil_append, rdI, rdI]
    show (match lnTk p n S.2.length x with
      | none => (Sum.inr j : RdS ⊕ Nat)
      | some t => rdI p n (rdS S (0, t)) (j + 1) []) = (match lnTk p n S.2.length x with
      | none => .inr (j + 0)
      | some t => .inl (rdS S (0, t)))
    cases lnTk p n S.2.length x with
    | none => rfl
    | some t => rfl
  | y :: a, x, S, j => by
    rw [List.cons_append, rdI, rdI]
    cases lnTk p n S.2.length y with
    | none => rfl
    | some t =>
      show rdI p n (rdS S (0, t)) (j + 1) (a ++ [x]) = _
      rw [rdI_snoc a x, List.length_cons, show j + (a.length + 1) = j + 1 + a.length by omega]
theorem rdI_stop : ∀ (a b : List Str) (S : RdS) (j q : Nat), rdI p n S j a = .inr q → rdI p n S j (a ++ b) = .inr q
  | [], b, S, j, q, h => by
    rw [rdI] at h
    cases h
  | y :: a, b, S, j, q, h => by
    rw [List.cons_append, rdI]
    rw [rdI] at h
    cases hh : lnTk p n S.2.length y with
    | none =>
      rw [hh] at h
      exact h
    | some t =>
      rw [hh] at h
      exact rdI_stop a b _ _ q h
/-- behind a line more -/
theorem rdI_next {ls : List Str} {i : Nat} {x : Str} {S : RdS} (h : rdI p n ([[]], []) 0 (ls.take i) = .inl S) (hx : ls[i]? = some x) {t : Tk} (ht : lnTk p n S.2.length x = some t) : rdI p n ([[]], []) 0 (ls.take (i + 1)) = .inl (rdS S (0, t)) := by
  rw [List.take_add_one, hx]
  show rdI p n ([[]], []) 0 (ls.take i ++ [x]) = _
  rw [rdI_snoc, h]
  show (match lnTk p n S.2.length x with | none => _ | some t => _) = _
  rw [ht]
theorem rdI_fail {ls : List Str} {i : Nat} {x : Str} {S : RdS} (h : rdI p n ([[]], []) 0 (ls.take i) = .inl S) (hx : ls[i]? = some x) (ht : lnTk p n S.2.length x = none) : rdI p n ([[]], []) 0 ls = .inr i := by
  have e : rdI p n ([[]], []) 0 (ls.take (i + 1)) = .inr i := by
    rw [List.take_add_one, hx]
    show rdI p n ([[]], []) 0 (ls.take i ++ [x]) = _
    rw [rdI_snoc, h]
    show (match lnTk p n S.2.length x with | none => _ | some t => _) = _
    rw [ht]
    have : i < ls.length := (List.getElem?_eq_some_iff.mp hx).1
    rw [List.length_take, Nat.zero_add, Nat.min_eq_left (by omega)]
  have := rdI_stop _ (ls.drop (i + 1)) _ _ _ e
  rwa [List.take_append_drop] at this
/-! what is read is good -/
def GoodS (p n : Int) : List (List Tr) → List Int → Prop
  | B, [] => ∃ b, B = [b] ∧ drs (GoodOp p n) R18 b 4
  | B, k :: R => ∃ b B', B = b :: B' ∧ R.length < 4 ∧ drs (GoodOp p n) R18 b (3 - R.length) ∧ R18 k ∧ GoodS p n B' R
theorem GoodS.form {B : List (List Tr)} {R : List Int} (h : GoodS p n B R) : (∃ b B', B = b :: B') ∧ R.length ≤ 4 ∧ B.length = R.length + 1 := by
  induction R generalizing B with
  | nil =>
    obtain ⟨b, rfl, _⟩ := h
    exact ⟨⟨_, _, rfl⟩, by decide, rfl⟩
  | cons k R ih =>
    obtain ⟨b, B', rfl, h1, _, _, h4⟩ := h
    have := ih h4
    exact ⟨⟨_, _, rfl⟩, by rw [List.length_cons]; omega, by rw [List.length_cons, List.length_cons, this.2.2]⟩
theorem GoodS.top {b : List Tr} {B : List (List Tr)} {R : List Int} (h : GoodS p n (b :: B) R) : drs (GoodOp p n) R18 b (4 - R.length) := by
  cases R with
  | nil =>
    obtain ⟨_, e, h⟩ := h
    cases e
    exact h
  | cons k R =>
    obtain ⟨_, _, e, h1, h2, _⟩ := h
    cases e
    rw [List.length_cons]
    have : 4 - (R.length + 1) = 3 - R.length := by omega
    rw [this]
    exact h2
theorem GoodS.put {b c : List Tr} {B : List (List Tr)} {R : List Int} (h : GoodS p n (b :: B) R) (hc : drs (GoodOp p n) R18 c (4 - R.length)) : GoodS p n (c :: B) R := by
  cases R with
  | nil =>
    obtain ⟨_, e, h⟩ := h
    cases e
    exact ⟨_, rfl, hc⟩
  | cons k R =>
    obtain ⟨_, _, e, h1, h2, h3, h4⟩ := h
    cases e
    refine ⟨_, _, rfl, h1, ?_, h3, h4⟩
    rw [List.length_cons] at hc
    have : 4 - (R.length + 1) = 3 - R.length := by omega
    rwa [this] at hc
theorem isBd_iff {lo hi : Int} {d : PyData} (h : isBd lo hi d = true) : ∃ i, d = .int i ∧ lo ≤ i ∧ i ≤ hi := by
  cases d with
  | int i =>
    have h : (decide (lo ≤ i) && decide (i ≤ hi)) = true := h
    rw [Bool.and_eq_true, decide_eq_true_eq, decide_eq_true_eq] at h
    exact ⟨i, rfl, h.1, h.2⟩
  | _ => cases h
theorem oD_int {o : Option Int} {i : Int} (h : oD o = .int i) : o = some i := by
  cases o with
  | none => cases h
  | some j =>
    cases h
    rfl
/-- the words of a step that may stand -/
theorem stp_good {z : Str} {os : List (Option Int)} (nl : z ≠ "loop") (h : stpOk p n z os = true) : ∃ as : List Int, os = as.map some ∧ GoodOp p n z as := by
  have h : (if z = "loop" then false else match shp z with | none => false | some s => shapeD p n s (os.map oD)) = true := h
  rw [if_neg nl] at h
  have key : ∀ s, shapeD p n s (os.map oD) = true → (s = (1, some 0) → ∃ x c, os = [some x, some c] ∧ 0 ≤ x ∧ x < n ∧ 0 ≤ c ∧ c < p) ∧ (s = (2, none) → ∃ x y, os = [some x, some y] ∧ 0 ≤ x ∧ x < n ∧ 0 ≤ y ∧ y < n ∧ x ≠ y) ∧ (s = (1, none) → ∃ x, os = [some x] ∧ 0 ≤ x ∧ x < n) ∧ (s = (2, some 1) → ∃ x y c, os = [some x, some y, some c] ∧ 0 ≤ x ∧ x < n ∧ 0 ≤ y ∧ y < n ∧ x ≠ y ∧ 1 ≤ c ∧ c < p) := fun s h => by
    refine ⟨fun e => ?_, fun e => ?_, fun e => ?_, fun e => ?_⟩
    · subst e
      have h : (decide ((os.map oD).length = 1 + 1) && (regsD n ((os.map oD).take 1) && isBd 0 (p - 1) ((os.map oD).getD 1 .none))) = true := h
      rw [Bool.and_eq_true, Bool.and_eq_true, decide_eq_true_eq, List.length_map] at h
      obtain ⟨h1, h2, h3⟩ := h
      match os, h1, h2, h3 with
      | [a, b], _, h2, h3 =>
        have h2 : ((isBd 0 (n - 1) (oD a) && true) && true) = true := h2
        rw [Bool.and_true, Bool.and_true] at h2
        obtain ⟨x, ex, x0, x1⟩ := isBd_iff h2
        obtain ⟨c, ec, c0, c1⟩ := isBd_iff (show isBd 0 (p - 1) (oD b) = true from h3)
        exact ⟨x, c, by rw [oD_int ex, oD_int ec], x0, by omega, c0, by omega⟩
    · subst e
      have h : (decide ((os.map oD).length = 2) && regsD n (os.map oD)) = true := h
      rw [Bool.and_eq_true, decide_eq_true_eq, List.length_map] at h
      obtain ⟨h1, h2⟩ := h
      match os, h1, h2 with
      | [a, b], _, h2 =>
        have h2 : ((isBd 0 (n - 1) (oD a) && (isBd 0 (n - 1) (oD b) && true)) && !sameI (oD a) (oD b)) = true := h2
        rw [Bool.and_true, Bool.and_eq_true, Bool.and_eq_true] at h2
        obtain ⟨⟨ha, hb⟩, hs⟩ := h2
        obtain ⟨x, ex, x0, x1⟩ := isBd_iff ha
        obtain ⟨y, ey, y0, y1⟩ := isBd_iff hb
        rw [ex, ey] at hs
        have hs : (!decide (x = y)) = true := hs
        refine ⟨x, y, by rw [oD_int ex, oD_int ey], x0, by omega, y0, by omega, fun e => ?_⟩
        rw [decide_eq_true e] at hs
        cases hs
    · subst e
      have h : (decide ((os.map oD).length = 1) && regsD n (os.map oD)) = true := h
      rw [Bool.and_eq_true, decide_eq_true_eq, List.length_map] at h
      obtain ⟨h1, h2⟩ := h
      match os, h1, h2 with
      | [a], _, h2 =>
        have h2 : ((isBd 0 (n - 1) (oD a) && true) && true) = true := h2
        rw [Bool.and_true, Bool.and_true] at h2
        obtain ⟨x, ex, x0, x1⟩ := isBd_iff h2
        exact ⟨x, by rw [oD_int ex], x0, by omega⟩
    · subst e
      have h : (decide ((os.map oD).length = 2 + 1) && (regsD n ((os.map oD).take 2) && isBd 1 (p - 1) ((os.map oD).getD 2 .none))) = true := h
      rw [Bool.and_eq_true, Bool.and_eq_true, decide_eq_true_eq, List.length_map] at h
      obtain ⟨h1, h2, h3⟩ := h
      match os, h1, h2, h3 with
      | [a, b, c], _, h2, h3 =>
        have h2 : ((isBd 0 (n - 1) (oD a) && (isBd 0 (n - 1) (oD b) && true)) && !sameI (oD a) (oD b)) = true := h2
        rw [Bool.and_true, Bool.and_eq_true, Bool.and_eq_true] at h2
        obtain ⟨⟨ha, hb⟩, hs⟩ := h2
        obtain ⟨x, ex, x0, x1⟩ := isBd_iff ha
        obtain ⟨y, ey, y0, y1⟩ := isBd_iff hb
        obtain ⟨v, ev, v0, v1⟩ := isBd_iff (show isBd 1 (p - 1) (oD c) = true from h3)
        rw [ex, ey] at hs
        have hs : (!decide (x = y)) = true := hs
        refine ⟨x, y, v, by rw [oD_int ex, oD_int ey, oD_int ev], x0, by omega, y0, by omega, fun e => ?_, v0, by omega⟩
        rw [decide_eq_true e] at hs
        cases hs
  cases hs : shp z with
  | none =>
    rw [hs] at h
    cases h
  | some s =>
    rw [hs] at h
    obtain ⟨k1, k2, k3, k4⟩ := key s h
    unfold shp at hs
    split at hs
    · rename_i ez
      cases hs
      obtain ⟨x, c, e, r⟩ := k1 rfl
      exact ⟨[x, c], e, .inl ⟨.inl ez, x, c, rfl, r⟩⟩
    split at hs
    · rename_i ez
      cases hs
      obtain ⟨x, y, e, r⟩ := k2 rfl
      exact ⟨[x, y], e, .inr (.inr (.inl ⟨.inl ez, x, y, rfl, r⟩))⟩
    split at hs
    · rename_i ez
      cases hs
      obtain ⟨x, y, c, e, r⟩ := k4 rfl
      exact ⟨[x, y, c], e, .inr (.inr (.inr ⟨ez, x, y, c, rfl, r⟩))⟩
    split at hs
    · rename_i ez
      cases hs
      obtain ⟨x, c, e, r⟩ := k1 rfl
      exact ⟨[x, c], e, .inl ⟨.inr ez, x, c, rfl, r⟩⟩
    split at hs
    · rename_i ez
      cases hs
      obtain ⟨x, y, e, r⟩ := k2 rfl
      exact ⟨[x, y], e, .inr (.inr (.inl ⟨.inr ez, x, y, rfl, r⟩))⟩
    split at hs
    · rename_i ez
      cases hs
      obtain ⟨x, e, r⟩ := k3 rfl
      exact ⟨[x], e, .inr (.inl ⟨.inl ez, x, rfl, r⟩)⟩
    split at hs
    · rename_i ez
      cases hs
      obtain ⟨x, e, r⟩ := k3 rfl
      exact ⟨[x], e, .inr (.inl ⟨.inr ez, x, rfl, r⟩)⟩
    cases hs
theorem fm_some (as : List Int) : (as.map some).filterMap id = as := by
  induction as with
  | nil => rfl
  | cons a as ih =>
    rw [List.map_cons, List.filterMap_cons, ih]
    rfl
theorem wd_op {d : Nat} {ws : List Str} {z : Str} {as : List Int} (h : wdTk p n d ws = some (.op z as)) : GoodOp p n z as ∧ z ≠ "loop" ∧ ∃ us, ws = z :: us ∧ us.map (nmK 80) = as.map some := by
  cases ws with
  | nil => cases h
  | cons y us =>
    rw [wdTk] at h
    split at h
    · exfalso
      unfold opnTk at h
      split at h
      · split at h
        · split at h
          · split at h <;> cases h
          · cases h
        · cases h
      · cases h
    · rename_i nl
      split at h
      · rename_i hs
        obtain ⟨bs, eb, g⟩ := stp_good nl hs
        rw [eb, fm_some] at h
        cases h
        exact ⟨g, nl, us, rfl, eb⟩
      · cases h
theorem wd_opn {d : Nat} {ws : List Str} {k : Int} (h : wdTk p n d ws = some (.opn k)) : R18 k ∧ d ≠ 4 ∧ ∃ a : Str, ws = [("loop" : Str), a, ("{" : Str)] ∧ nmK 80 a = some k := by
  cases ws with
  | nil => cases h
  | cons y us =>
    rw [wdTk] at h
    split at h
    · rename_i ey
      unfold opnTk at h
      split at h
      · rename_i a b
        split at h
        · rename_i hc
          split at h
          · rename_i i hi
            split at h
            · rename_i hk
              cases h
              exact ⟨⟨nmK_nn hi, hk⟩, hc.2, a, by rw [ey, hc.1], hi⟩
            · cases h
          · cases h
        · cases h
      · cases h
    · split at h <;> cases h
theorem wd_cls {d : Nat} {ws : List Str} (h : wdTk p n d ws = some .cls) : False := by
  cases ws with
  | nil => cases h
  | cons y us =>
    rw [wdTk] at h
    split at h
    · unfold opnTk at h
      split at h
      · split at h
        · split at h
          · split at h <;> cases h
          · cases h
        · cases h
      · cases h
    · split at h <;> cases h
theorem ln_of {d : Nat} {x : Str} {t : Tk} (h : lnTk p n d x = some t) : (t = .cls ∧ d ≠ 0) ∨ wdTk p n d (Txt.split (cutS x (some ((2 * d : Nat) : Int)) none) " ") = some t := by
  unfold lnTk at h
  split at h
  · rename_i hc
    cases h
    exact .inl ⟨rfl, hc.1⟩
  · split at h
    · exact .inr h
    · cases h
theorem GoodS.step {S : RdS} {x : Str} {t : Tk} (g : GoodS p n S.1 S.2) (h : lnTk p n S.2.length x = some t) : GoodS p n (rdS S (0, t)).1 (rdS S (0, t)).2 := by
  obtain ⟨B, R⟩ := S
  obtain ⟨⟨b, B', rfl⟩, l4, bl⟩ := g.form
  cases t with
  | op z as =>
    rcases ln_of h with ⟨e, _⟩ | h
    · cases e
    · obtain ⟨go, _⟩ := wd_op h
      exact g.put (drs_append g.top (drs_one (by rw [Tr.dr]; exact go)))
  | opn k =>
    rcases ln_of h with ⟨e, _⟩ | h
    · cases e
    · obtain ⟨hk, d4, _⟩ := wd_opn h
      have d4 : R.length ≠ 4 := d4
      have l4 : R.length ≤ 4 := l4
      exact ⟨_, _, rfl, by omega, drs_nil, hk, g⟩
  | cls =>
    rcases ln_of h with ⟨_, d0⟩ | h
    · match R, g, d0, bl with
      | k :: R, g, _, bl =>
        match B', g, bl with
        | c :: B'', g, bl =>
          obtain ⟨_, _, e, h1, h2, h3, h4⟩ := g
          cases e
          show GoodS p n ((c ++ [.loop k b]) :: B'') R
          refine h4.put (drs_append h4.top (drs_one ?_))
          have : 4 - R.length = (3 - R.length) + 1 := by omega
          rw [this, Tr.dr]
          exact ⟨h3, h2⟩
        | [], g, bl => exact absurd bl (by simp)
    · exact (wd_cls h).elim
/-- how many instructions were read -/
def meN (s : RdS) : Nat := (s.1.map szN).sum
theorem rdS_meN (s : RdS) (l : Nat × Tk) : meN (rdS s l) ≤ meN s + 1 := by
  obtain ⟨B, R⟩ := s
  obtain ⟨d, t⟩ := l
  cases t with
  | op z as =>
    cases B with
    | nil => exact Nat.le_add_right _ _
    | cons b B =>
      show (szN (b ++ [.op z as])) + (B.map szN).sum ≤ (szN b + (B.map szN).sum) + 1
      rw [szN_append, szN_one, Tr.sz]
      omega
  | opn k =>
    cases B with
    | nil =>
      show (([([] : List Tr)]).map szN).sum ≤ (([] : List (List Tr)).map szN).sum + 1
      rw [List.map_cons, List.sum_cons, szN]
      omega
    | cons b B =>
      show (([] :: b :: B).map szN).sum ≤ ((b :: B).map szN).sum + 1
      rw [List.map_cons, List.sum_cons, szN]
      omega
  | cls =>
    match B, R with
    | [], R => exact Nat.le_add_right _ _
    | [b], R => cases R <;> exact Nat.le_add_right _ _
    | b :: c :: B, [] => exact Nat.le_add_right _ _
    | b :: c :: B, k :: R =>
      show szN (c ++ [.loop k b]) + (B.map szN).sum ≤ (szN b + (szN c + (B.map szN).sum)) + 1
      rw [szN_append, szN_one, Tr.sz]
      omega
theorem rdI_good : ∀ (ls : List Str) (S S' : RdS) (j : Nat), GoodS p n S.1 S.2 → rdI p n S j ls = .inl S' → GoodS p n S'.1 S'.2 ∧ meN S' ≤ meN S + ls.length
  | [], S, S', j, g, h => by
    rw [rdI] at h
    cases h
    exact ⟨g, Nat.le_add_right _ _⟩
  | x :: r, S, S', j, g, h => by
    rw [rdI] at h
    cases hh : lnTk p n S.2.length x with
    | none =>
      rw [hh] at h
      cases h
    | some t =>
      rw [hh] at h
      obtain ⟨a, b⟩ := rdI_good r _ S' _ (g.step hh) h
      refine ⟨a, ?_⟩
      have := rdS_meN S (0, t)
      rw [List.length_cons]
      omega
theorem GoodS.start : GoodS p n [[]] [] := ⟨_, rfl, drs_nil⟩
theorem rdI_len {ls : List Str} {i : Nat} {S : RdS} (h : rdI p n ([[]], []) 0 (ls.take i) = .inl S) : GoodS p n S.1 S.2 ∧ meN S ≤ i := by
  obtain ⟨a, b⟩ := rdI_good _ _ _ _ (GoodS.start (p := p) (n := n)) h
  refine ⟨a, ?_⟩
  rw [List.length_take] at b
  have : meN (([[]], []) : RdS) = 0 := rfl
  omega
theorem mem_meN {s : RdS} {c : List Tr} (h : c ∈ s.1) : szN c ≤ meN s := by
  obtain ⟨B, R⟩ := s
  have key : ∀ {B : List (List Tr)}, c ∈ B → szN c ≤ (B.map szN).sum := fun {B} h => by
    induction B with
    | nil => cases h
    | cons b B ih =>
      rw [List.map_cons, List.sum_cons]
      rcases List.mem_cons.mp h with rfl | h
      · omega
      · have := ih h
        omega
  exact key h
/-! ### the law's way to say it -/
theorem stp_small (p1 : p ≤ 10007) (n1 : n ≤ 8) {z : Str} {os : List (Option Int)} (nl : z ≠ "loop") (h : stpOk p n z os = true) : ∀ o ∈ os, ∃ i : Int, o = some i ∧ i ≤ 10 ^ 18 := fun o mo => by
  obtain ⟨as, rfl, g⟩ := stp_good nl h
  obtain ⟨a, ma, rfl⟩ := List.mem_map.mp mo
  exact ⟨a, rfl, (good_small p1 n1 g a ma).2⟩
theorem nm_same (p1 : p ≤ 10007) (n1 : n ≤ 8) {z : Str} (nl : z ≠ "loop") (us : List Str) : stpOk p n z (us.map (nmK 80)) = stpOk p n z (us.map (nmK 30)) ∧ (stpOk p n z (us.map (nmK 30)) = true → us.map (nmK 80) = us.map (nmK 30)) := by
  have k1 : stpOk p n z (us.map (nmK 30)) = true → us.map (nmK 80) = us.map (nmK 30) := fun h => by
    refine List.map_congr_left fun u mu => ?_
    obtain ⟨i, e, _⟩ := stp_small p1 n1 nl h _ (List.mem_map.mpr ⟨u, mu, rfl⟩)
    rw [e, nmK_mono (by decide) e]
  have k2 : stpOk p n z (us.map (nmK 80)) = true → us.map (nmK 80) = us.map (nmK 30) := fun h => by
    refine List.map_congr_left fun u mu => ?_
    obtain ⟨i, e, l⟩ := stp_small p1 n1 nl h _ (List.mem_map.mpr ⟨u, mu, rfl⟩)
    rw [e, nmK_small e l]
  refine ⟨?_, k1⟩
  cases h : stpOk p n z (us.map (nmK 30)) with
  | true => rw [k1 h, h]
  | false =>
    cases h2 : stpOk p n z (us.map (nmK 80)) with
    | false => rfl
    | true => rw [← k2 h2, h2] at h; cases h
end
end Lj
set_option Elab.async false
set_option linter.all false
set_option maxRecDepth 100000
set_option pp.maxSteps 500
set_option pp.deepTerms.threshold 8
set_option pp.deepTerms false
namespace Lj
open PySem PySem.Spec PyProof.Rows L2 TL
/-! ### the law's forms of words -/
def frmL (z : Str) : Option (List Nat) := if z = "set" then some [114, 99] else if z = "copy" then some [114, 114] else if z = "add" then some [114, 114, 100] else if z = "scale" then some [114, 99] else if z = "swap" then some [114, 114] else if z = "read" then some [114] else if z = "write" then some [114] else none
def mkS (l : List Nat) : Str := ⟨l.toArray⟩
def psC (p n : Int) (c : Nat) (i : Int) : Prop := i < (if c = 114 then n else p) ∧ ¬ (c = 100 ∧ i = 0)
section
variable {p n : Int}
theorem psC_r {i : Int} (h : psC p n 114 i) : i < n := h.1
theorem psC_c {i : Int} (h : psC p n 99 i) : i < p := h.1
theorem psC_d {i : Int} (h : psC p n 100 i) : i < p ∧ i ≠ 0 := ⟨h.1, fun e => h.2 ⟨rfl, e⟩⟩
theorem frm_good {z : Str} {l : List Nat} {as : List Int} (e : frmL z = some l) (hl : as.length = l.length) (hp : ∀ (j c : Nat) (a : Int), l[j]? = some c → as[j]? = some a → psC p n c a) (nn : ∀ a ∈ as, 0 ≤ a) (hr : ¬ (l.take 2 = [114, 114] ∧ as[0]? = as[1]?)) : GoodOp p n z as := by
  have k2 : ∀ {x y : Int}, as = [x, y] → ∀ (c d : Nat), l = [c, d] → psC p n c x ∧ psC p n d y ∧ 0 ≤ x ∧ 0 ≤ y := fun {x y} ea c d el => by
    subst ea
    subst el
    exact ⟨hp 0 _ _ rfl rfl, hp 1 _ _ rfl rfl, nn x (by simp), nn y (by simp)⟩
  have two : l.length = 2 → ∃ x y, as = [x, y] := fun h => by
    rw [h] at hl
    match as, hl with
    | [x, y], _ => exact ⟨x, y, rfl⟩
  have one : l.length = 1 → ∃ x, as = [x] := fun h => by
    rw [h] at hl
    match as, hl with
    | [x], _ => exact ⟨x, rfl⟩
  have three : l.length = 3 → ∃ x y c, as = [x, y, c] := fun h => by
    rw [h] at hl
    match as, hl with
    | [x, y, c], _ => exact ⟨x, y, c, rfl⟩
  unfold frmL at e
  split at e
  · rename_i ez
    cases e
    obtain ⟨x, y, ea⟩ := two rfl
    obtain ⟨a, b, c, d⟩ := k2 ea _ _ rfl
    exact .inl ⟨.inl ez, x, y, ea, c, psC_r a, d, psC_c b⟩
  split at e
  · rename_i ez
    cases e
    obtain ⟨x, y, ea⟩ := two rfl
    obtain ⟨a, b, c, d⟩ := k2 ea _ _ rfl
    exact .inr (.inr (.inl ⟨.inl ez, x, y, ea, c, psC_r a, d, psC_r b, fun e => hr ⟨rfl, by rw [ea, e]; rfl⟩⟩))
  split at e
  · rename_i ez
    cases e
    obtain ⟨x, y, c, ea⟩ := three rfl
    subst ea
    have h3 := psC_d (hp 2 _ _ rfl rfl)
    have h4 := nn c (by simp)
    exact .inr (.inr (.inr ⟨ez, x, y, c, rfl, nn x (by simp), psC_r (hp 0 _ _ rfl rfl), nn y (by simp), psC_r (hp 1 _ _ rfl rfl), fun e => hr ⟨rfl, by rw [e]; rfl⟩, by omega, h3.1⟩))
  split at e
  · rename_i ez
    cases e
    obtain ⟨x, y, ea⟩ := two rfl
    obtain ⟨a, b, c, d⟩ := k2 ea _ _ rfl
    exact .inl ⟨.inr ez, x, y, ea, c, psC_r a, d, psC_c b⟩
  split at e
  · rename_i ez
    cases e
    obtain ⟨x, y, ea⟩ := two rfl
    obtain ⟨a, b, c, d⟩ := k2 ea _ _ rfl
    exact .inr (.inr (.inl ⟨.inr ez, x, y, ea, c, psC_r a, d, psC_r b, fun e => hr ⟨rfl, by rw [ea, e]; rfl⟩⟩))
  split at e
  · rename_i ez
    cases e
    obtain ⟨x, ea⟩ := one rfl
    subst ea
    exact .inr (.inl ⟨.inl ez, x, rfl, nn x (by simp), psC_r (hp 0 _ _ rfl rfl)⟩)
  split at e
  · rename_i ez
    cases e
    obtain ⟨x, ea⟩ := one rfl
    subst ea
    exact .inr (.inl ⟨.inr ez, x, rfl, nn x (by simp), psC_r (hp 0 _ _ rfl rfl)⟩)
  cases e
theorem good_frm {z : Str} {as : List Int} (g : GoodOp p n z as) : ∃ l, frmL z = some l ∧ as.length = l.length ∧ (∀ (j c : Nat) (a : Int), l[j]? = some c → as[j]? = some a → psC p n c a) ∧ ¬ (l.take 2 = [114, 114] ∧ as[0]? = as[1]?) := by
  have P2 : ∀ {x y : Int} {c d : Nat}, psC p n c x → psC p n d y → ∀ (j e : Nat) (a : Int), [c, d][j]? = some e → [x, y][j]? = some a → psC p n e a := fun {x y c d} h1 h2 j e a he ha => by
    match j, he, ha with
    | 0, he, ha => cases he; cases ha; exact h1
    | 1, he, ha => cases he; cases ha; exact h2
  have r : ∀ {x : Int}, x < n → psC p n 114 x := fun h => ⟨h, fun e => absurd e.1 (by decide)⟩
  have q : ∀ {x : Int}, x < p → psC p n 99 x := fun h => ⟨h, fun e => absurd e.1 (by decide)⟩
  rcases g with ⟨hz, x, c, rfl, h1, h2, h3, h4⟩ | ⟨hz, x, rfl, h1, h2⟩ | ⟨hz, x, y, rfl, h1, h2, h3, h4, h5⟩ | ⟨hz, x, y, c, rfl, h1, h2, h3, h4, h5, h6, h7⟩
  · refine ⟨[114, 99], by rcases hz with rfl | rfl <;> decide, rfl, P2 (r h2) (q h4), fun h => absurd h.1 (by decide)⟩
  · refine ⟨[114], by rcases hz with rfl | rfl <;> decide, rfl, fun j e a he ha => ?_, fun h => absurd h.1 (by decide)⟩
    match j, he, ha with
    | 0, he, ha => cases he; cases ha; exact r h2
  · refine ⟨[114, 114], by rcases hz with rfl | rfl <;> decide, rfl, P2 (r h2) (r h4), fun h => h5 (Option.some.inj h.2)⟩
  · subst hz
    refine ⟨[114, 114, 100], by decide, rfl, fun j e a he ha => ?_, fun h => h5 (Option.some.inj h.2)⟩
    match j, he, ha with
    | 0, he, ha => cases he; cases ha; exact r h2
    | 1, he, ha => cases he; cases ha; exact r h4
    | 2, he, ha =>
      cases he
      cases ha
      exact ⟨h7, fun e => by omega⟩
theorem frm_len {z : Str} {l : List Nat} (e : frmL z = some l) : l.length ≤ 3 ∧ ∀ c ∈ l, c < 128 := by
  unfold frmL at e
  split at e
  · cases e; decide
  split at e
  · cases e; decide
  split at e
  · cases e; decide
  split at e
  · cases e; decide
  split at e
  · cases e; decide
  split at e
  · cases e; decide
  split at e
  · cases e; decide
  cases e
end
/-- the dict of the forms -/
def frmD : List (Key × V) := [(Sum.inr "set", .str "rc"), (Sum.inr "copy", .str "rr"), (Sum.inr "add", .str "rrd"), (Sum.inr "scale", .str "rc"), (Sum.inr "swap", .str "rr"), (Sum.inr "read", .str "r"), (Sum.inr "write", .str "r")]
theorem frmD_merge : mergeK [] frmD = frmD := rfl
theorem valV_cons {k : Key} {v : V} {l : List (Key × V)} {z : Key} : valV ((k, v) :: l) z = if k = z then some v else valV l z := by
  unfold valV
  rw [List.find?_cons]
  by_cases c : k = z
  · rw [if_pos c, decide_eq_true c]
    rfl
  · rw [if_neg c, decide_eq_false c]
theorem frm_val (z : Str) : valV frmD (Sum.inr z) = (frmL z).map fun l => V.str (mkS l) := by
  have inr : ∀ (a : Str), ((Sum.inr a : Key) = Sum.inr z) = (z = a) := fun a => propext ⟨fun h => (Sum.inr.inj h).symm, fun h => by rw [h]⟩
  unfold frmD frmL
  rw [valV_cons, valV_cons, valV_cons, valV_cons, valV_cons, valV_cons, valV_cons]
  simp only [inr]
  repeat' split
  all_goals rfl
theorem mkS_one {c d : Nat} : (mkS [c] = mkS [d]) = (c = d) := propext ⟨fun h => by
  have h := congrArg tl h
  have h : [c] = [d] := h
  injection h, fun h => by rw [h]⟩
end Lj
set_option Elab.async false
set_option linter.all false
set_option maxRecDepth 100000
set_option maxHeartbeats 1000000
set_option pp.maxSteps 500
set_option pp.deepTerms.threshold 8
set_option pp.deepTerms false
namespace Lj
open PySem PySem.Spec PyProof.Rows L2
/-! ### zip(text, list), the text of plain signs -/
theorem new_SL (x : Str) (t : Tok) (ha : x.cps.all (· < 128) = true) (l2 : Addr) (ys : Array Value) : Meets (Builtin.«zip.__new__» ⟨[.type "zip", .str x t, .ref l2], []⟩) (fun _ R s => s.heap.IsList l2 ys ∧
      R (.ok (.ret (.ref (s.heap.objs.size + 4)))) { s with heap := zh s.heap (oSi x t) (oLi l2) s.heap.objs.size (s.heap.objs.size + 1) }) :=
  .of_wp fun prog w A R s h => by
    obtain ⟨hp, g, d, tk, os⟩ := s; obtain ⟨t2, h⟩ := h
    have sub := sub_zip
    have T2 : Heap.IsList (Shared.heap ⟨hp.push { cls := .type "str_ascii_iterator", data := .fields #[.str x t, .int 0 0] }, g, d, tk, os⟩) l2 ys := Heap.IsList.push t2 _
    wp_walk using wpAny_pyIter_ascii ha, wpAny_pyIter_list T2
    refine ⟨_, rfl, ?_⟩
    simp only [Heap.size_push]
    exact h
def iZipSL (K : PySem.W.Frag) (ta : TA) : TI := fun σ H R => ta σ H fun vs H1 => ∃ (x : Str) (b : Addr) (ys : List V), vs = [.str x, .ref b] ∧ x.cps.all (· < 128) = true ∧ SqL K H1 b ys ∧ R (ItF (min (sgn x).length ys.length) (fun H => True ∧ SqL K H b ys) (sgn x) ys) H1
theorem pi_zipSL {X : Cx} {e e2 : Expr} {ta : TA} {p pos tpos : PySem.Pos} {elts : List Expr} {kk : Nat} (hg : Gl X "zip") (hm : X.mg "zip" = none) (ha : PA X [e, e2] ta)
    (hs : starEach [e, e2] X.env = (false, eval e X.env) :: starEach [e2] X.env := by rfl) (hpl : (backTo pos (starEach [e2] X.env)).any (·.1) = false := by rfl) :
    PI X (.Tuple elts kk tpos) (.Call (.Name "zip" p) [e, e2] [] pos) (iZipSL X.K ta) := by
  refine ⟨fun pins s σ H R I h => Call_ (ld_blt I hg hm PyProof.Rows.boot_zip (PyProof.Rows.callWith_type1 (thn (ha.run pos pins s σ H _ I h) fun us s1 ⟨vs, H1, I1, r1, x, b, ys, ex, asc, g2, q⟩ => ?_) hs hpl))⟩
  subst ex
  obtain ⟨u1, u2, rfl, ⟨t, rfl⟩, rb⟩ := r1.two
  cases rb
  obtain ⟨its2, rv2, p2, _⟩ := I1.list g2
  have bl : b < s1.heap.objs.size := p2.lt
  refine callType_new F.called_zip (by decide) (F.typeCall_zip_2 _ _) (F.newCall_zip_2 _ _) (fun obj => F.args_object_init_3 obj _ _) F.entry_zip_new (new_SL x t asc b its2.toArray) ⟨p2.isList, ?_⟩
  obtain ⟨f1, f2, f3, f4, f5⟩ := zh_sz s1.heap (oSi x t) (oLi b)
  have keep : ∀ c o, s1.heap.get? c = some o → (zh s1.heap (oSi x t) (oLi b) s1.heap.objs.size (s1.heap.objs.size + 1)).get? c = some o := fun c o e => Heap.get?_push_of_some _ (Heap.get?_push_of_some _ (Heap.get?_push_of_some _ (Heap.get?_push_of_some _ (Heap.get?_push_of_some _ e))))
  refine ⟨⟨_, f5, rfl⟩, wpAny_pyIter_zip f5 ?_⟩
  have I2 : Inv X pins σ H1 { s1 with heap := zh s1.heap (oSi x t) (oLi b) s1.heap.objs.size (s1.heap.objs.size + 1) } := I1.kept (t' := s1.toks) keep
  have ap : ∀ {l : Addr}, l < s1.heap.objs.size → l ≠ s1.heap.objs.size + 4 ∧ l ≠ s1.heap.objs.size + 3 ∧ l ≠ s1.heap.objs.size ∧ l ≠ s1.heap.objs.size + 1 := fun {l} h =>
    ⟨Nat.ne_of_lt (Nat.lt_add_right _ h), Nat.ne_of_lt (Nat.lt_add_right _ h), Nat.ne_of_lt h, Nat.ne_of_lt (Nat.lt_add_right _ h)⟩
  refine ⟨s1.heap.objs.size + 4, [s1.heap.objs.size + 4, s1.heap.objs.size + 2, s1.heap.objs.size + 3, s1.heap.objs.size, s1.heap.objs.size + 1], _, _, H1, rfl, I2, turn_F (five_new s1.heap.objs.size) (sr_str (x := x) (t := t)) (sr_list (a := b) (xs := ys)) (fun l m => absurd m List.not_mem_nil) (fun l m => by rw [List.mem_singleton.mp m]; exact ap bl), ⟨f5, f3, ⟨_, _, f4⟩, ⟨_, f1, rfl, rfl⟩, ⟨_, f2, rfl, rfl⟩⟩, fun c hcm => ?_, q⟩
  have le : s1.heap.objs.size ≤ c := by
    simp only [List.mem_cons, List.not_mem_nil, or_false] at hcm
    rcases hcm with rfl | rfl | rfl | rfl | rfl
    · exact Nat.le_add_right _ _
    · exact Nat.le_add_right _ _
    · exact Nat.le_add_right _ _
    · exact Nat.le_refl _
    · exact Nat.le_add_right _ _
  exact I1.fpOk le (I1.hok.fresh le)
end Lj
set_option Elab.async false
set_option linter.all false
set_option maxRecDepth 100000
set_option maxHeartbeats 1000000
set_option pp.maxSteps 500
set_option pp.deepTerms.threshold 8
set_option pp.deepTerms false
namespace Lj
open PySem PySem.Spec PyProof.Rows L2
/-! ### list(text) -/
theorem call_listS {X : Cx} (hc : X.calm = true) : CallR X (.type "list") (fun xs H Q => ∃ z : Str, xs = [.str z] ∧ z.cps.size ≤ sizeLine ∧ ∀ l, H l = none → Q (.ref l) (upd H l (.lst (sgn z)))) := by
  intro pins s σ H xs us Q I r h
  obtain ⟨z, rfl, hz, q⟩ := h
  obtain ⟨u, rfl, t, rfl⟩ := vals1 r
  refine PySem.call_list_str (I.ok.hd hc) z t (fun h' tk acc' c' hk hS hacc => ?_) hz
  refine ⟨.ref _, upd H _ (.lst (sgn z)), I.laid (t' := tk) hk (Nat.le_refl _) (show ObjOk X.prog X.w _ _ _ (.lst (sgn z)) from ⟨?_, acc'.toList, c', ?_, ?_⟩), rfl, q _ (I.hok.fresh (Nat.le_refl _))⟩
  · rw [sgn_len]
    exact hz
  · have el : acc'.toList.length = acc'.size := by simp
    refine vals_of_at (by rw [sgn_len, el, hacc.1]) fun j x w h1 h2 => ?_
    obtain ⟨c, u, hc', hw⟩ := hacc.2 j w (by rw [← Array.getElem?_toList]; exact h2)
    unfold sgn at h1
    rw [List.getElem?_map, Array.getElem?_toList, hc'] at h1
    cases h1
    exact ⟨u, hw⟩
  · rw [Array.toArray_toList]
    exact hS
end Lj
set_option Elab.async false
set_option linter.all false
set_option maxRecDepth 100000
set_option pp.maxSteps 500
set_option pp.deepTerms.threshold 8
set_option pp.deepTerms false
namespace Lj
open PySem PySem.Spec PyProof.Rows L2 TL
section
variable {p n : Int}
theorem rdI_le : ∀ (ls : List Str) (S : RdS) (j i : Nat), rdI p n S j ls = .inr i → i ≤ j + ls.length
  | [], S, j, i, h => by
    rw [rdI] at h
    cases h
  | x :: r, S, j, i, h => by
    rw [rdI] at h
    rw [List.length_cons]
    cases hh : lnTk p n S.2.length x with
    | none =>
      rw [hh] at h
      cases h
      omega
    | some t =>
      rw [hh] at h
      have := rdI_le r _ _ _ h
      omega
theorem rdP_le {y : Str} {i : Nat} (h : rdP p n y = .inr i) : i ≤ (lnsOf y).length := by
  unfold rdP at h
  split at h
  · rename_i q hq
    cases h
    have := rdI_le _ _ _ _ hq
    omega
  · unfold endP at h
    split at h
    · split at h
      · cases h
      · cases h
        exact Nat.zero_le _
    · cases h
      exact Nat.le_refl _
theorem rdP_good {y : Str} {b : List Tr} (h : rdP p n y = .inl b) : drs (GoodOp p n) R18 b 4 ∧ szN b ≤ (lnsOf y).length := by
  unfold rdP at h
  split at h
  · cases h
  · rename_i S hS
    obtain ⟨gs, me⟩ := rdI_good _ _ _ _ (GoodS.start (p := p) (n := n)) hS
    unfold endP at h
    split at h
    · rename_i b' B
      split at h
      · cases h
        refine ⟨gs.top, ?_⟩
        have h1 := mem_meN (s := (b :: B, [])) (c := b) List.mem_cons_self
        have : meN (([[]], []) : RdS) = 0 := rfl
        omega
      · cases h
    · cases h
/-- what is told of a text -/
def resD : List Tr ⊕ Nat → PyData
  | .inl b => .tuple [.tuple (datTs b), .none]
  | .inr i => .tuple [.none, .int (i : Int)]
theorem resD_inr {i : Nat} (h : i ≤ 1000) : (resD (.inr i)).showable = true ∧ (resD (.inr i)).hasDict = false ∧ (resD (.inr i)).depth ≤ 64 ∧ (resD (.inr i)).shown.length ≤ sizeLine := by
  have hb : (i : Int).natAbs < 2 ^ 1000 := by
    have z : (1000 : Nat) < 2 ^ 1000 := by decide +kernel
    omega
  have lf : ∀ d ∈ [PyData.none, PyData.int (i : Int)], Leaf d := fun d md => by
    simp only [List.mem_cons, List.not_mem_nil, or_false] at md
    rcases md with rfl | rfl
    · exact leaf_none
    · exact leaf_int (log_of hb (by decide) (by decide))
  obtain ⟨b1, b2, b3, b4, b5⟩ := leaf_all lf
  refine ⟨by rw [resD, PyData.showable]; exact b1, by rw [resD, PyData.hasDict]; exact b2, by rw [resD, PyData.depth, b3]; decide, ?_⟩
  rw [resD, PyData.shown, sizeLine_eq]
  have := PySem.tupleText_len_le (PyData.shownAll [PyData.none, PyData.int (i : Int)])
  have l2 : [PyData.none, PyData.int (i : Int)].length = 2 := rfl
  omega
theorem resD_inl {b : List Tr} (p1 : p ≤ 10007) (n1 : n ≤ 8) (h : drs (GoodOp p n) R18 b 4) (hs : szN b ≤ 401) : (resD (.inl b)).showable = true ∧ (resD (.inl b)).hasDict = false ∧ (resD (.inl b)).depth ≤ 64 ∧ (resD (.inl b)).shown.length ≤ sizeLine := by
  have hk : ∀ k, R18 k → k.natAbs < 2 ^ 1000 := fun k hk => by
    obtain ⟨k0, k1⟩ := hk
    have z : (10 ^ 18 : Nat) < 2 ^ 1000 := by decide +kernel
    omega
  obtain ⟨b1, b2, b3, b4, b5⟩ := drs_show (fun z as g => g.short p1 (by omega)) hk b 4 h
  obtain ⟨n1, n2, n3, n4⟩ := leaf_none
  have bl := szN_len b
  refine ⟨by rw [resD, PyData.showable, PyData.showableAll, PyData.showable, b1, PyData.showableAll, n1, PyData.showableAll]; rfl, by rw [resD, PyData.hasDict, PyData.hasDictAll, PyData.hasDict, b2, PyData.hasDictAll, n2, PyData.hasDictAll]; rfl, by rw [resD, PyData.depth, PyData.depthAll, PyData.depth, PyData.depthAll, n3, PyData.depthAll]; omega, ?_⟩
  rw [resD, PyData.shown, PyData.shownAll, PyData.shownAll, PyData.shownAll, sizeLine_eq]
  have z := PySem.tupleText_len_le [PyData.shown (.tuple (datTs b)), PyData.shown .none]
  have ez : (PyData.shown (.tuple (datTs b))) = tupleText (PyData.shownAll (datTs b)) := by rw [PyData.shown]
  rw [List.map_cons, List.map_cons, List.map_nil, List.sum_cons, List.sum_cons, List.sum_nil, ez] at z
  rw [show ([tupleText (PyData.shownAll (datTs b)), PyData.shown .none] : List Str).length = 2 from rfl] at z
  have y := PySem.tupleText_len_le (PyData.shownAll (datTs b))
  rw [ez]
  omega
end
/-! ### the long text -/
def s01 : Str := "set 0 1"
theorem s01_tl : tl s01 = [115, 101, 116, 32, 48, 32, 49] := by decide +kernel
def lngS (k : Nat) : Str := Txt.join "\n" (List.replicate k s01)
theorem joinL_rep (S q : List Nat) : ∀ k, joinL S (List.replicate (k + 2) q) = joinL S (List.replicate (k + 1) q) ++ (S ++ q)
  | 0 => rfl
  | k + 1 => by
    show q ++ (S ++ joinL S (List.replicate (k + 2) q)) = (q ++ (S ++ joinL S (List.replicate (k + 1) q))) ++ (S ++ q)
    rw [joinL_rep S q k]
    simp only [List.append_assoc]
theorem lng_tl (k : Nat) : tl (lngS k) = joinL [10] (List.replicate k (tl s01)) := by
  unfold lngS
  rw [join_eq, tl_join, nl_tl, List.map_replicate]
theorem lng_succ (k : Nat) : tl (lngS (k + 2)) = tl (lngS (k + 1)) ++ [10, 115, 101, 116, 32, 48, 32, 49] := by
  rw [lng_tl, lng_tl, joinL_rep, s01_tl]
  rfl
theorem lng_cut (k : Nat) : cutS (lngS (k + 2)) none (some (-8)) = lngS (k + 1) := by
  refine ext_tl ?_
  have h : tl (cutS (lngS (k + 2)) none (some (-8))) = ((tl (lngS (k + 2))).drop 0).take (HT.sIx (lngS (k + 2)).length (lngS (k + 2)).length (some (-8)) - 0) := rfl
  have e := lng_succ k
  have l : (lngS (k + 2)).length = (tl (lngS (k + 1))).length + 8 := by
    rw [len_tl, e, List.length_append]
    rfl
  have e2 : HT.sIx (lngS (k + 2)).length (lngS (k + 2)).length (some (-8)) = (tl (lngS (k + 1))).length := by
    rw [l]
    show (if (-8 : Int) < 0 then ((-8 : Int) + (((tl (lngS (k + 1))).length + 8 : Nat) : Int)).toNat else min (-8 : Int).toNat ((tl (lngS (k + 1))).length + 8)) = _
    rw [if_pos (by decide)]
    omega
  rw [h, e2, List.drop_zero, Nat.sub_zero, e, List.take_left]
theorem lng_len : ∀ k, (lngS (k + 1)).length = 8 * k + 7
  | 0 => by decide +kernel
  | k + 1 => by
    have := lng_len k
    rw [len_tl] at this ⊢
    rw [lng_succ, List.length_append, this]
    show 8 * k + 7 + 8 = _
    omega
theorem lng_split (k : Nat) : Txt.split (lngS (k + 1)) "\n" = List.replicate (k + 1) s01 := by
  unfold lngS
  refine split_join (s := 10) (S := []) nl_tl nl_hk (by simp) fun x mx => ?_
  rw [List.eq_of_mem_replicate mx, s01_tl]
  decide
theorem lng_cnl (k : Nat) : cnl (lngS (k + 1)) = k := by
  have := split_count (x := lngS (k + 1)) nl_tl nl_hk
  rw [lng_split, List.length_replicate] at this
  show (tl (lngS (k + 1))).count 10 = k
  omega
theorem lng_lns (k : Nat) : lnsOf (lngS (k + 1)) = List.replicate (k + 1) s01 := by
  unfold lnsOf
  rw [if_neg, lng_split]
  intro e
  have := lng_len k
  rw [e] at this
  have h0 : ("" : Str).length = 0 := by decide +kernel
  omega
theorem s01_tk : lnTk 5 2 0 s01 = some (.op "set" [0, 1]) := by
  have h1 : Txt.startswith s01 (mrg 0) = true := by decide +kernel
  have h2 : Txt.split (cutS s01 (some ((2 * 0 : Nat) : Int)) none) " " = [("set" : Str), ("0" : Str), ("1" : Str)] := by decide +kernel
  have h3 : nmK 80 "0" = some 0 := by decide +kernel
  have h4 : nmK 80 "1" = some 1 := by decide +kernel
  have h5 : stpOk 5 2 "set" [some 0, some 1] = true := by decide +kernel
  unfold lnTk
  rw [if_neg (fun h => h.1 rfl), if_pos h1, h2, wdTk, if_neg (by decide), List.map_cons, List.map_cons, List.map_nil, h3, h4, if_pos h5]
  rfl
theorem lng_rd : ∀ (k j : Nat) (b : List Tr), rdI 5 2 ([b], []) j (List.replicate k s01) = .inl ([b ++ List.replicate k (.op "set" [0, 1])], [])
  | 0, j, b => by
    rw [List.replicate_zero, rdI, List.replicate_zero, List.append_nil]
  | k + 1, j, b => by
    rw [List.replicate_succ, rdI]
    show (match lnTk 5 2 0 s01 with | none => (Sum.inr j : RdS ⊕ Nat) | some t => rdI 5 2 (rdS ([b], []) (0, t)) (j + 1) (List.replicate k s01)) = _
    rw [s01_tk]
    show rdI 5 2 ([b ++ [.op "set" [0, 1]]], []) (j + 1) (List.replicate k s01) = _
    rw [lng_rd k (j + 1) _, List.replicate_succ, List.append_assoc]
    rfl
theorem rep_szs (k : Nat) : szs (List.replicate k (Tr.op "set" [0, 1])) = (k : Int) := by
  unfold szs
  have : ∀ k, inns (List.replicate k (Tr.op "set" [0, 1])) = 0 := fun k => by
    induction k with
    | zero => rfl
    | succ k ih =>
      rw [List.replicate_succ, inns, ih]
      rfl
  rw [this, List.length_replicate]
  omega
theorem rep_cnts {z : Str} (hz : ¬ ("set" : Str) = z) (k : Nat) : cnts z (List.replicate k (Tr.op "set" [0, 1])) = 0 := by
  induction k with
  | zero => rfl
  | succ k ih =>
    rw [List.replicate_succ, cnts, ih, Tr.cnt, if_neg hz]
    rfl
theorem lng_rdP (k : Nat) : rdP 5 2 (lngS (k + 1)) = if k + 1 ≤ 200 then .inl (List.replicate (k + 1) (.op "set" [0, 1])) else .inr 0 := by
  unfold rdP
  rw [lng_lns, lng_rd, List.nil_append]
  show (if wit (List.replicate (k + 1) (Tr.op "set" [0, 1])) = true then (.inl (List.replicate (k + 1) (Tr.op "set" [0, 1])) : List Tr ⊕ Nat) else .inr 0) = _
  have e : wit (List.replicate (k + 1) (Tr.op "set" [0, 1])) = decide (k + 1 ≤ 200) := by
    unfold wit
    rw [rep_szs, rep_cnts (by decide), rep_cnts (by decide)]
    by_cases c : k + 1 ≤ 200
    · rw [decide_eq_true c, decide_eq_true (by omega)]
      rfl
    · rw [decide_eq_false c, decide_eq_false (by omega)]
      rfl
  rw [e]
  by_cases c : k + 1 ≤ 200
  · rw [decide_eq_true c, if_pos rfl, if_pos c]
  · rw [decide_eq_false c, if_neg c, if_neg Bool.false_ne_true]
end Lj
set_option Elab.async false
set_option linter.all false
set_option maxRecDepth 100000
set_option pp.maxSteps 500
set_option pp.deepTerms.threshold 8
set_option pp.deepTerms false
namespace K58
open PySem PySem.Spec PyProof.Rows L2 Lj
def topS (i : Nat) : Stmt := PySem.Challenge.pw_leastjournal_k58_texts_that_are_no_progr.main.body.getD i (.Pass ⟨0, 0, 0, 0⟩)
abbrev sIs_between : Stmt := topS 4
theorem scIs_between : FnScope ["value", "low", "high"] ["value", "low", "high"] (defScope sIs_between) := ⟨rfl, rfl, rfl, by decide +kernel, rfl, by decide +kernel, by decide +kernel⟩
abbrev sIs_program : Stmt := topS 12
theorem scIs_program : FnScope ["p", "n", "value"] ["p", "n", "value"] (defScope sIs_program) := ⟨rfl, rfl, rfl, by decide +kernel, rfl, by decide +kernel, by decide +kernel⟩
abbrev sIs_body : Stmt := topS 13
theorem scIs_body : FnScope ["p", "n", "value", "levels", "part"] ["p", "n", "value", "levels"] (defScope sIs_body) := ⟨rfl, rfl, rfl, by decide +kernel, rfl, by decide +kernel, by decide +kernel⟩
abbrev sIs_instruction : Stmt := topS 14
theorem scIs_instruction : FnScope ["p", "n", "value", "levels"] ["p", "n", "value", "levels"] (defScope sIs_instruction) := ⟨rfl, rfl, rfl, by decide +kernel, rfl, by decide +kernel, by decide +kernel⟩
abbrev sIs_loop : Stmt := topS 15
theorem scIs_loop : FnScope ["p", "n", "value", "levels"] ["p", "n", "value", "levels"] (defScope sIs_loop) := ⟨rfl, rfl, rfl, by decide +kernel, rfl, by decide +kernel, by decide +kernel⟩
abbrev sHas_shape : Stmt := topS 16
theorem scHas_shape : FnScope ["p", "n", "shape", "parts", "many", "least"] ["p", "n", "shape", "parts"] (defScope sHas_shape) := ⟨rfl, rfl, rfl, by decide +kernel, rfl, by decide +kernel, by decide +kernel⟩
abbrev sAre_registers : Stmt := topS 17
theorem scAre_registers : FnScope ["n", "parts", "part"] ["n", "parts"] (defScope sAre_registers) := ⟨rfl, rfl, rfl, by decide +kernel, rfl, by decide +kernel, by decide +kernel⟩
abbrev sSize : Stmt := topS 18
theorem scSize : FnScope ["program", "total", "instruction"] ["program"] (defScope sSize) := ⟨rfl, rfl, rfl, by decide +kernel, rfl, by decide +kernel, by decide +kernel⟩
abbrev sRead_count : Stmt := topS 19
theorem scRead_count : FnScope ["program"] ["program"] (defScope sRead_count) := ⟨rfl, rfl, rfl, by decide +kernel, rfl, by decide +kernel, by decide +kernel⟩
abbrev sWrite_count : Stmt := topS 20
theorem scWrite_count : FnScope ["program"] ["program"] (defScope sWrite_count) := ⟨rfl, rfl, rfl, by decide +kernel, rfl, by decide +kernel, by decide +kernel⟩
abbrev sWord_count : Stmt := topS 21
theorem scWord_count : FnScope ["program", "word", "total", "instruction"] ["program", "word"] (defScope sWord_count) := ⟨rfl, rfl, rfl, by decide +kernel, rfl, by decide +kernel, by decide +kernel⟩
abbrev sRead_program : Stmt := topS 27
theorem scRead_program : FnScope ["p", "n", "text", "lines", "reader", "index", "line", "program"] ["p", "n", "text"] (defScope sRead_program) := ⟨rfl, rfl, rfl, by decide +kernel, rfl, by decide +kernel, by decide +kernel⟩
abbrev sNumber_of : Stmt := topS 28
theorem scNumber_of : FnScope ["word", "sign"] ["word"] (defScope sNumber_of) := ⟨rfl, rfl, rfl, by decide +kernel, rfl, by decide +kernel, by decide +kernel⟩
abbrev sDigits : Stmt := topS 30
theorem scDigits : FnScope ["_law_script", "_law_k", "_law_cell", "_law_large"] ["_law_script", "_law_k"] (defScope sDigits) := ⟨rfl, rfl, rfl, by decide +kernel, rfl, by decide +kernel, by decide +kernel⟩
abbrev sDraw : Stmt := topS 31
theorem scDraw : FnScope ["_law_pot", "_law_upto", "_law_digit", "_law_turn", "_law_mixed"] ["_law_pot", "_law_upto"] (defScope sDraw) := ⟨rfl, rfl, rfl, by decide +kernel, rfl, by decide +kernel, by decide +kernel⟩
abbrev sPick : Stmt := topS 32
theorem scPick : FnScope ["_law_pot", "_law_items"] ["_law_pot", "_law_items"] (defScope sPick) := ⟨rfl, rfl, rfl, by decide +kernel, rfl, by decide +kernel, by decide +kernel⟩
abbrev sOther : Stmt := topS 33
theorem scOther : FnScope ["_law_pot", "_law_n", "_law_x"] ["_law_pot", "_law_n", "_law_x"] (defScope sOther) := ⟨rfl, rfl, rfl, by decide +kernel, rfl, by decide +kernel, by decide +kernel⟩
abbrev sInstruction : Stmt := topS 34
theorem scInstruction : FnScope ["_law_pot", "_law_p", "_law_n", "_law_x", "_law_word"] ["_law_pot", "_law_p", "_law_n"] (defScope sInstruction) := ⟨rfl, rfl, rfl, by decide +kernel, rfl, by decide +kernel, by decide +kernel⟩
abbrev sFlat : Stmt := topS 35
theorem scFlat : FnScope ["_law_program", "_law_found", "_law_at", "_law_op", "_law_inner", "_law_turn", "_law_path", "_law_one"] ["_law_program"] (defScope sFlat) := ⟨rfl, rfl, rfl, by decide +kernel, rfl, by decide +kernel, by decide +kernel⟩
abbrev sLines : Stmt := topS 36
theorem scLines : FnScope ["_law_program", "_law_level", "_law_found", "_law_op", "_law_part"] ["_law_program", "_law_level"] (defScope sLines) := ⟨rfl, rfl, rfl, by decide +kernel, rfl, by decide +kernel, by decide +kernel⟩
abbrev sNested_program : Stmt := topS 37
theorem scNested_program : FnScope ["_law_pot", "_law_p", "_law_n", "_law_length", "_law_level", "_law_found", "_law_at", "_law_body", "_law_many", "_law_touches", "_law_path", "_law_op"] ["_law_pot", "_law_p", "_law_n", "_law_length", "_law_level"] (defScope sNested_program) := ⟨rfl, rfl, rfl, by decide +kernel, rfl, by decide +kernel, by decide +kernel⟩
abbrev sOnce : Stmt := topS 38
theorem scOnce : FnScope ["_law_program", "_law_op"] ["_law_program"] (defScope sOnce) := ⟨rfl, rfl, rfl, by decide +kernel, rfl, by decide +kernel, by decide +kernel⟩
abbrev sNumber : Stmt := topS 39
theorem scNumber : FnScope ["_law_word", "_law_sign"] ["_law_word"] (defScope sNumber) := ⟨rfl, rfl, rfl, by decide +kernel, rfl, by decide +kernel, by decide +kernel⟩
abbrev sLine_op : Stmt := topS 40
theorem scLine_op : FnScope ["_law_p", "_law_n", "_law_line", "_law_words", "_law_many", "_law_numbers", "_law_forms_of", "_law_kinds", "_law_kind", "_law_number_here", "_law_word"] ["_law_p", "_law_n", "_law_line"] (defScope sLine_op) := ⟨rfl, rfl, rfl, by decide +kernel, rfl, by decide +kernel, by decide +kernel⟩
abbrev sRead : Stmt := topS 41
theorem scRead : FnScope ["_law_p", "_law_n", "_law_text", "_law_stack", "_law_counts", "_law_lines_here", "_law_at", "_law_line", "_law_level", "_law_body", "_law_op"] ["_law_p", "_law_n", "_law_text"] (defScope sRead) := ⟨rfl, rfl, rfl, by decide +kernel, rfl, by decide +kernel, by decide +kernel⟩
abbrev sTotal : Stmt := topS 42
theorem scTotal : FnScope ["_law_program", "_law_word", "_law_op"] ["_law_program", "_law_word"] (defScope sTotal) := ⟨rfl, rfl, rfl, by decide +kernel, rfl, by decide +kernel, by decide +kernel⟩
abbrev sInstructions : Stmt := topS 43
theorem scInstructions : FnScope ["_law_program", "_law_op"] ["_law_program"] (defScope sInstructions) := ⟨rfl, rfl, rfl, by decide +kernel, rfl, by decide +kernel, by decide +kernel⟩
abbrev sWithin : Stmt := topS 44
theorem scWithin : FnScope ["_law_program"] ["_law_program"] (defScope sWithin) := ⟨rfl, rfl, rfl, by decide +kernel, rfl, by decide +kernel, by decide +kernel⟩
abbrev sChanged : Stmt := topS 45
theorem scChanged : FnScope ["_law_pot", "_law_text", "_law_way", "_law_parts", "_law_at", "_law_spot", "_law_sign", "_law_ahead", "_law_here"] ["_law_pot", "_law_text"] (defScope sChanged) := ⟨rfl, rfl, rfl, by decide +kernel, rfl, by decide +kernel, by decide +kernel⟩
abbrev sTold : Stmt := topS 46
theorem scTold : FnScope ["_law_p", "_law_n", "_law_text", "_law_found", "error"] ["_law_p", "_law_n", "_law_text"] (defScope sTold) := ⟨rfl, rfl, rfl, by decide +kernel, rfl, by decide +kernel, by decide +kernel⟩
abbrev sLaw : Stmt := topS 47
theorem scLaw : FnScope ["_law_script", "_law_k", "_law_pot", "_law_turn", "_law_p", "_law_n", "_law_text", "_law_again", "_law_value", "_law_long_text"] ["_law_script"] (defScope sLaw) := ⟨rfl, rfl, rfl, by decide +kernel, rfl, by decide +kernel, by decide +kernel⟩
abbrev sReader_init : Stmt := inClass (topS 26) 0
theorem scReader_init : FnScope ["self", "p", "n"] ["self", "p", "n"] (defScope sReader_init) := ⟨rfl, rfl, rfl, by decide +kernel, rfl, by decide +kernel, by decide +kernel⟩
abbrev sReader_takes : Stmt := inClass (topS 26) 1
theorem scReader_takes : FnScope ["self", "line", "margin", "words"] ["self", "line"] (defScope sReader_takes) := ⟨rfl, rfl, rfl, by decide +kernel, rfl, by decide +kernel, by decide +kernel⟩
abbrev sReader_close_loop : Stmt := inClass (topS 26) 2
theorem scReader_close_loop : FnScope ["self", "body"] ["self"] (defScope sReader_close_loop) := ⟨rfl, rfl, rfl, by decide +kernel, rfl, by decide +kernel, by decide +kernel⟩
abbrev sReader_takes_loop : Stmt := inClass (topS 26) 3
theorem scReader_takes_loop : FnScope ["self", "words", "number"] ["self", "words"] (defScope sReader_takes_loop) := ⟨rfl, rfl, rfl, by decide +kernel, rfl, by decide +kernel, by decide +kernel⟩
abbrev sReader_takes_step : Stmt := inClass (topS 26) 4
theorem scReader_takes_step : FnScope ["self", "words", "numbers", "instruction", "word"] ["self", "words"] (defScope sReader_takes_step) := ⟨rfl, rfl, rfl, by decide +kernel, rfl, by decide +kernel, by decide +kernel⟩
abbrev sEB : Stmt := inClass (topS 2) 0
end K58
set_option Elab.async false
set_option linter.all false
set_option maxRecDepth 100000
set_option pp.maxSteps 500
set_option pp.deepTerms.threshold 8
set_option pp.deepTerms false
namespace K58
open PySem PySem.Spec PyProof.Rows L2 Lj
section
variable {P : Program} {w : World} {K : PySem.W.Frag} {mg : Str → Option Value} {base : Heap}
open TL
/-! ### texts of programs, as they are written -/
theorem call_strIS {X : Cx} : CallR X (.type "str") (fun xs H Q => (∃ i, xs = [.int i] ∧ i.natAbs.log2 < 1920 ∧ Q (.str (numS i)) H) ∨ ∃ a, xs = [.str a] ∧ Q (.str a) H) := by
  intro pins s σ H vs us Q I r h
  rcases h with h | h
  · exact call_str_int pins s σ H vs us Q I r h
  · exact SkE.call_str_str pins s σ H vs us Q I r h
theorem log_small {i : Int} (h : i.natAbs ≤ 10 ^ 18) : i.natAbs.log2 < 1920 := by
  by_cases c : i.natAbs = 0
  · rw [c]
    decide
  · refine (Nat.log2_lt c).mpr (Nat.lt_of_le_of_lt h ?_)
    decide +kernel
theorem w7_noloop {z : Str} (h : z ∈ W7) : z ≠ "loop" := by
  simp only [W7, List.mem_cons, List.not_mem_nil, or_false] at h
  rcases h with h | h | h | h | h | h | h <;> subst h <;> decide
theorem drs_at57 {G : Str → List Int → Prop} {R : Int → Prop} : ∀ {b : List Tr} {e i : Nat} {t : Tr}, drs G R b e → b[i]? = some t → t.dr G R e
  | [], _, _, _, _, h => by simp at h
  | u :: r, e, 0, t, h, x => by
    cases x
    rw [drs] at h
    exact h.1
  | u :: r, e, i + 1, t, h, x => by
    rw [drs] at h
    exact drs_at57 (i := i) h.2 x
theorem drs_loop57 {G : Str → List Int → Prop} {R : Int → Prop} {b b' : List Tr} {e i : Nat} {k : Int} (h : drs G R b e) (x : b[i]? = some (.loop k b')) : ∃ e', e = e' + 1 ∧ R k ∧ drs G R b' e' := by
  have := drs_at57 h x
  cases e with
  | zero => rw [Tr.dr] at this; exact this.elim
  | succ e =>
    rw [Tr.dr] at this
    exact ⟨e, rfl, this⟩
theorem lns_len57 {b b' : List Tr} {k : Int} : ∀ {i : Nat}, b[i]? = some (.loop k b') → szN b' ≤ szN b := fun {i} h => by
  have e : b = b.take i ++ ([.loop k b'] ++ b.drop (i + 1)) := by
    have := (List.take_append_drop i b).symm
    rw [List.drop_eq_getElem_cons (List.getElem?_eq_some_iff.mp h).1, (List.getElem?_eq_some_iff.mp h).2] at this
    exact this
  have h1 := szN_append (b.take i) ([.loop k b'] ++ b.drop (i + 1))
  have h2 := szN_append [.loop k b'] (b.drop (i + 1))
  rw [← e] at h1
  rw [szN_one, Tr.sz] at h2
  omega
abbrev Rk18 : Int → Prop := R18
end
end K58
set_option Elab.async false
set_option linter.all false
set_option maxRecDepth 100000
set_option pp.maxSteps 500
set_option pp.deepTerms.threshold 8
set_option pp.deepTerms false
namespace K58
open PySem PySem.Spec PyProof.Rows L2 Lj
section
variable {P : Program} {w : World} {K : PySem.W.Frag} {mg : Str → Option Value} {base : Heap}
open TL
/-! ### a number read from any word -/
def onV : Option Int → V
  | none => .non
  | some i => .int i
def spNoA (m : Nat) : Sp := fun vs H Q _ => ∃ x : Str, vs = [.str x] ∧ x.length ≤ 10000000 ∧ ∀ H', Same H H' → Q (onV (nmK m x)) H'
theorem all_dig {x : Str} : ((tl x).map fun c => decide (c ∈ ("0123456789" : Str).cps.toList)).all id = (tl x).all isDig := by
  rw [List.all_map]
  refine congrArg (fun f => (tl x).all f) (funext fun c => ?_)
  have e : ("0123456789" : Str).cps.toList = [48, 49, 50, 51, 52, 53, 54, 55, 56, 57] := by decide +kernel
  show decide (c ∈ ("0123456789" : Str).cps.toList) = isDig c
  rw [e]
  unfold isDig
  by_cases h : 48 ≤ c ∧ c ≤ 57
  · rw [decide_eq_true h.1, decide_eq_true h.2]
    exact decide_eq_true (by simp only [List.mem_cons, List.not_mem_nil, or_false]; omega)
  · have : (decide (48 ≤ c) && decide (c ≤ 57)) = false := by
      rw [Bool.and_eq_false_iff, decide_eq_false_iff_not, decide_eq_false_iff_not]
      omega
    rw [this]
    exact decide_eq_false (by simp only [List.mem_cons, List.not_mem_nil, or_false]; omega)
theorem nmK_no1 {m : Nat} {x : Str} (h : tl x = [] ∨ m < (tl x).length ∨ ¬ (tl x).all isDig = true) : nmK m x = none := by
  unfold nmK
  rw [if_pos h]
theorem nmK_no2 {m : Nat} {x : Str} (h : (tl x).head? = some 48 ∧ tl x ≠ [48]) : nmK m x = none := by
  unfold nmK
  split
  · rfl
  · rfl
theorem nmK_yes {m : Nat} {x : Str} (h : ¬ (tl x = [] ∨ m < (tl x).length ∨ ¬ (tl x).all isDig = true)) (h2 : ¬ ((tl x).head? = some 48 ∧ tl x ≠ [48])) : ∃ n : Nat, nmK m x = some (n : Int) ∧ x = numS (n : Int) ∧ numL n = tl x := by
  have e : nmK m x = some (valL (tl x) : Int) := by
    unfold nmK
    rw [if_neg h, if_neg h2]
  obtain ⟨n, e1, e2, _, e3⟩ := nmK_some e
  exact ⟨n, by rw [e, e1], e2, e3⟩
theorem tl_nil {x : Str} : x = "" ↔ tl x = [] := by
  have e0 : tl ("" : Str) = [] := by decide +kernel
  constructor
  · intro e
    rw [e, e0]
  · intro e
    exact ext_tl (by rw [e, e0])
set_option maxHeartbeats 4000000 in
theorem ok_numA (M : Bl mg) (F : At K mg "number_of" sNumber_of ["word"]) {td tm : Tok} (g_DIGITS : mg "DIGITS" = some (.str "0123456789" td)) (g_MAX_DIGITS : mg "MAX_DIGITS" = some (.int 80 tm)) {k : Nat} : Has P w K mg base (k + 1) "number_of" ["word"] (spNoA 80) := by
  refine Has.by F scNumber_of (fun vs H Q E h => ?_) (fun f cdv A out s H vs Q E hg hr h => ?_)
  · obtain ⟨_, rfl, _⟩ := h
    rfl
  obtain ⟨x, rfl, wl, q⟩ := h
  refine ⟨_, (pss_cons (ps_if (PW.pt (pw_or (pt_cmpR op_eq (pv 0) pe_str (nomark _)) (pw_or (pt_cmpR op_gt (pe_callB call_len_str (by rfl) M.len_ (by decide +kernel) (pa_cons (pv 0) pa_nil)) (pe_glob (v := .int 80) (by rfl) g_MAX_DIGITS ⟨_, rfl⟩) (nomark _)) (pw_or1 (pt_not (pt_val (pe_callB (cr_all rfl) (by rfl) M.all_ (by decide +kernel) (pa_cons (pe_lc (own := [("sign", 1)]) (g := gName 1) (by rfl) scNumber_of.nd (pi_str (pv 0)) (blkOk_by (own := [("sign", 1)]) (N := ["word", "sign"]) (sc := defScope sNumber_of) (by decide +kernel)) (fun _ _ _ _ _ => (pg_name (i := 1) scNumber_of.nd rfl (.inl rfl))) (fun _ _ _ _ _ => pts_nil) (fun _ _ _ _ _ => (pe_cmpR op_inS (pv 1) (pe_glob (v := .str "0123456789") (by rfl) g_DIGITS ⟨_, rfl⟩) (by rfl)))) pa_nil))))))))
    (pss_one (ps_ret pe_non))
    pss_nil)
  (pss_cons (ps_if (PW.pt (pw_and (pt_cmpR op_eq (pe_ix ix_str (pv 0) pe_int (fun _ _ => rfl)) pe_str (nomark _)) (pw_and1 (pt_cmpR op_ne (pv 0) pe_str (nomark _)))))
    (pss_one (ps_ret pe_non))
    pss_nil)
  (pss_one (ps_ret (pe_callTy call_int_str (by rfl) M.int_ (by decide +kernel) (pa_cons (pv 0) pa_nil)))))), ?_⟩
  refine ⟨_, rfl, rfl, _, rfl, ?_⟩
  by_cases c1 : x = ""
  · refine iteP (congrArg V.str c1) ?_
    have := q H (Same.refl H)
    rw [nmK_no1 (.inl (tl_nil.mp c1))] at this
    exact this
  refine iteN (fun e => c1 (V.str.inj e)) ?_
  refine ⟨_, rfl, x, rfl, by rw [sizeLine_eq]; omega, _, _, rfl, rfl, _, rfl, ite2 (fun c => ?_) (fun c => ?_)⟩
  · have c : (80 : Int) < (x.length : Int) := of_decide_eq_true c
    have := q H (Same.refl H)
    rw [nmK_no1 (.inr (.inl (by rw [← len_tl]; omega)))] at this
    exact this
  have c : ¬ (80 : Int) < (x.length : Int) := fun h => c (decide_eq_true h)
  refine ⟨_, rfl, _, rfl, fun D nD => ?_⟩
  refine lc_it (walk_str (z := x)) (fun i H' => H' D = some (.lst ((((tl x).take i).map fun c => decide (c ∈ ("0123456789" : Str).cps.toList)).map V.bl)) ∧ Same H H') ⟨upd_same, same_new nD⟩ (fun _ _ _ _ => trivial) ?_ ?_
  · rintro i y H1 H2 hi ⟨e1, s1⟩ ⟨rfl, c, hc, rfl⟩
    have hc' : (tl x)[i]? = some c := by
      rw [← Array.getElem?_toList] at hc
      exact hc
    refine ⟨rfl, ?_⟩
    refine ⟨_, rfl, c, _, rfl, rfl, ?_⟩
    refine ⟨_, e1, ?_, ?_, same_upd s1 nD⟩
    · rw [List.length_map, List.length_map, List.length_take, sizeLine_eq, ← len_tl]
      omega
    · rw [upd_same, List.take_add_one, hc', List.map_append, List.map_append]
      rfl
  rintro H1 ⟨e1, s1⟩
  rw [show x.cps.size = (tl x).length from rfl, List.take_length] at e1
  refine ⟨D, _, rfl, SqL.of e1, ?_⟩
  rw [all_dig]
  by_cases c3 : (tl x).all isDig = true
  · rw [c3]
    refine ⟨_, rfl, iteF ?_⟩
    have nn : tl x ≠ [] := fun e => c1 (tl_nil.mpr e)
    obtain ⟨h0, r0, eh⟩ : ∃ h r, tl x = h :: r := by
      cases hn : tl x with
      | nil => exact absurd hn nn
      | cons a l => exact ⟨a, l, rfl⟩
    have hy : ¬ (tl x = [] ∨ 80 < (tl x).length ∨ ¬ (tl x).all isDig = true) := fun h => by
      rcases h with h | h | h
      · exact nn h
      · rw [← len_tl] at h
        omega
      · exact h c3
    have fin : ¬ ((tl x).head? = some 48 ∧ tl x ≠ [48]) → tRet (tCB (fun xs H Q => ∃ a n, xs = [.str a] ∧ PySem.intText? a = some n ∧ a.length ≤ 640 ∧ Q (.int n) H) (tCons (tVar 0) tNil)) { nx := fun _ H' => Q .non H', rt := Q } (L2.start ["word", "sign"] [V.str x]) H1 := fun hz => by
      obtain ⟨n, e1, e2, e3⟩ := nmK_yes hy hz
      have := q H1 s1
      rw [e1] at this
      have it : PySem.intText? (numS (n : Int)) = some (n : Int) := int_num (by rw [e3, ← len_tl]; omega)
      rw [← e2] at it
      exact ⟨_, rfl, _, _, rfl, it, by omega, this⟩
    refine ⟨_, rfl, x, 0, h0, rfl, rfl, by rw [sizeLine_eq]; omega, ?_, rfl, _, rfl, ?_⟩
    · have : x.cps.toList = h0 :: r0 := eh
      rw [this]
      exact atI_nat (j := 0) rfl
    have e4 : tl ("0" : Str) = [48] := by decide +kernel
    have e5 : tl (⟨#[h0]⟩ : Str) = [h0] := rfl
    by_cases c4 : h0 = 48
    · subst c4
      refine iteP (congrArg V.str (ext_tl (by rw [e4, e5]))) ?_
      refine ⟨_, rfl, rfl, _, rfl, ?_⟩
      by_cases c5 : x = "0"
      · refine ifNN (congrArg V.str c5) ?_
        exact fin fun h => h.2 (by rw [c5, e4])
      · refine iteNN (fun e => c5 (V.str.inj e)) ?_
        have := q H1 s1
        rw [nmK_no2 ⟨by rw [eh]; rfl, fun e => c5 (ext_tl (by rw [e, e4]))⟩] at this
        exact this
    · refine iteN (fun e => c4 ?_) ?_
      · have e2 := V.str.inj e
        have e3 := congrArg tl e2
        rw [e4, e5] at e3
        injection e3
      · exact fin fun h => c4 (by have := h.1; rw [eh] at this; injection this)
  · rw [Bool.eq_false_iff.mpr c3]
    refine ⟨_, rfl, iteT ?_⟩
    have := q H1 s1
    rw [nmK_no1 (.inr (.inr c3))] at this
    exact this
end
end K58
set_option Elab.async false
set_option linter.all false
set_option maxRecDepth 100000
set_option pp.maxSteps 500
set_option pp.deepTerms.threshold 8
set_option pp.deepTerms false
namespace K58
open PySem PySem.Spec PyProof.Rows L2 Lj
section
variable {P : Program} {w : World} {K : PySem.W.Frag} {mg : Str → Option Value} {base : Heap}
theorem take_all {α : Type} (b : List α) : b.take b.length = b := List.take_length
/-! ### size -/
theorem ok_size1 (M : Bl mg) (F : At K mg "size" sSize ["program"]) {n k : Nat} (h : Has P w K mg base k "size" ["program"] (spTI K (okB n) szs)) : Has P w K mg base (k + 1) "size" ["program"] (spTI K (okB (n + 1)) szs) := by
  obtain ⟨fS, fdS, cSize⟩ := h
  refine Has.by F scSize (fun vs H Q E h => ?_) (fun f cdv A out s H vs Q E hg hr h => ?_)
  · obtain ⟨v, t, rfl, _⟩ := h
    rfl
  obtain ⟨v, b, rfl, ⟨c, us, rfl, sq, r⟩, ok, q⟩ := h
  refine ⟨_, (pss_cons (ps_set (i := 1) scSize.nd rfl (.inl rfl) (pe_callB call_len_seq (by rfl) M.len_ (by decide +kernel) (pa_cons (pv 0) pa_nil)))
  (pss_cons (ps_for PassesOwn.never rfl (pi_tup (pv 0)) (pg_name (i := 2) scSize.nd rfl (.inl rfl))
    (pss_one (ps_if (pt_cmpR op_eq (pe_ix ix_tup (pv 2) pe_int (fun _ _ => rfl)) pe_str (nomark _))
    (pss_one (ps_aug (i := 1) scSize.nd rfl (.inl rfl) (pe_cal cSize hg hr (by rfl) (pa_cons (pe_ix ix_tup (pv 2) pe_int (fun _ _ => rfl)) pa_nil)) ip_add))
    pss_nil)))
  (pss_one (ps_ret (pv 1))))), ?_⟩
  refine ⟨_, rfl, c, us, rfl, .inr sq, ?_⟩
  refine ⟨_, rfl, c, rfl, ⟨_, sq⟩, ?_⟩
  refine for_tup (xs := us) (fun i σ H' => ∃ y, σ = [some (.ref c), some (.int ((us.length : Int) + ((b.take i).map Tr.inn).sum)), y] ∧ Same H H') ⟨none, ?_, Same.refl H⟩ (fun i σ H' _ h => ?_) ?_ ?_
  · show _ = [some (V.ref c), some (V.int ((us.length : Int) + 0)), none]
    rw [Int.add_zero]
    rfl
  · obtain ⟨_, _, h⟩ := h
    exact (Kt.same h).sq sq
  · rintro i x σ H' hx ⟨y, rfl, e2⟩
    obtain ⟨t, ht, hT⟩ := r.get hx
    have hT := TrAt.kt (Kt.same e2) t x hT
    cases t with
    | op u as =>
      rw [TrAt] at hT
      obtain ⟨a, rfl, sq3⟩ := hT
      refine ⟨_, rfl, a, _, 0, .str u, rfl, rfl, sq3, at0, rfl, _, rfl, iteN (fun e => okB_op ok ht (V.str.inj e)) ?_⟩
      refine ⟨some (.ref a), ?_, e2⟩
      rw [sum_next ht]
      show _ = [_, some (V.int ((us.length : Int) + (((b.take i).map Tr.inn).sum + 0))), _]
      rw [Int.add_zero]
      rfl
    | loop m b' =>
      rw [TrAt] at hT
      obtain ⟨a, d, ws, rfl, sq3, sq4, r2⟩ := hT
      obtain ⟨c0, c1, ok2⟩ := okB_loop ok ht
      refine ⟨_, rfl, a, _, 0, .str "loop", rfl, rfl, sq3, rfl, rfl, _, rfl, iteP rfl ?_⟩
      refine ⟨_, rfl, _, rfl, a, _, 2, .ref d, rfl, rfl, sq3, rfl, _, b', rfl, ⟨d, ws, rfl, sq4, r2⟩, ok2, fun H2 sm => ?_⟩
      refine ⟨_, _, rfl, rfl, some (.ref a), ?_, e2.trans sm⟩
      rw [sum_next ht]
      show _ = [_, some (V.int ((us.length : Int) + (((b.take i).map Tr.inn).sum + Tr.inn (.loop m b')))), _]
      rw [Tr.inn, ← Int.add_assoc]
      rfl
  · rintro σ H' ⟨y, rfl, e2⟩
    rw [r.length, take_all, ← inns_map]
    exact ⟨_, rfl, q H' e2⟩
theorem ok_size (M : Bl mg) (F : At K mg "size" sSize ["program"]) : ∀ n, Has P w K mg base n "size" ["program"] (spTI K (okB n) szs)
  | 0 => Has.none F fun vs H Q E ⟨_, _, _, _, h, _⟩ => h
  | n + 1 => ok_size1 M F (ok_size M F n)

theorem ok_word1 (M : Bl mg) (F : At K mg "word_count" sWord_count ["program", "word"]) {n k : Nat} (h : Has P w K mg base k "word_count" ["program", "word"] (spWI K (okB n))) : Has P w K mg base (k + 1) "word_count" ["program", "word"] (spWI K (okB (n + 1))) := by
  obtain ⟨fS, fdS, cWord_count⟩ := h
  refine Has.by F scWord_count (fun vs H Q E h => ?_) (fun f cdv A out s H vs Q E hg hr h => ?_)
  · obtain ⟨v, t, z, rfl, _⟩ := h
    rfl
  obtain ⟨v, b, z, rfl, ⟨c, us, rfl, sq, r⟩, ok, hz, q⟩ := h
  refine ⟨_, (pss_cons (ps_set (i := 2) scWord_count.nd rfl (.inl rfl) pe_int)
  (pss_cons (ps_for PassesOwn.never rfl (pi_tup (pv 0)) (pg_name (i := 3) scWord_count.nd rfl (.inl rfl))
    (pss_one (ps_if (pt_cmpR op_eq (pe_ix ix_tup (pv 3) pe_int (fun _ _ => rfl)) pe_str (nomark _))
    (pss_one (ps_aug (i := 2) scWord_count.nd rfl (.inl rfl) (pe_op op_mul (pe_ix ix_tup (pv 3) pe_int (fun _ _ => rfl)) (pe_cal cWord_count hg hr (by rfl) (pa_cons (pe_ix ix_tup (pv 3) pe_int (fun _ _ => rfl)) (pa_cons (pv 1) pa_nil)))) ip_add))
    (pss_one (ps_if (pt_cmpR op_eq (pe_ix ix_tup (pv 3) pe_int (fun _ _ => rfl)) (pv 1) (nomark _))
    (pss_one (ps_aug (i := 2) scWord_count.nd rfl (.inl rfl) pe_int ip_add))
    pss_nil)))))
  (pss_one (ps_ret (pv 2))))), ?_⟩
  refine ⟨_, rfl, c, rfl, ⟨_, sq⟩, ?_⟩
  refine for_tup (xs := us) (fun i σ H' => ∃ y, σ = [some (.ref c), some (.str z), some (.int ((b.take i).map (Tr.cnt z)).sum), y] ∧ Same H H') ⟨none, rfl, Same.refl H⟩ (fun i σ H' _ h => ?_) ?_ ?_
  · obtain ⟨_, _, h⟩ := h
    exact (Kt.same h).sq sq
  · rintro i x σ H' hx ⟨y, rfl, e2⟩
    obtain ⟨t, ht, hT⟩ := r.get hx
    have hT := TrAt.kt (Kt.same e2) t x hT
    rw [sum_next ht]
    cases t with
    | op u as =>
      rw [TrAt] at hT
      obtain ⟨a, rfl, sq3⟩ := hT
      refine ⟨_, rfl, a, _, 0, .str u, rfl, rfl, sq3, at0, rfl, _, rfl, iteN (fun e => okB_op ok ht (V.str.inj e)) ?_⟩
      refine ⟨_, rfl, a, _, 0, .str u, rfl, rfl, sq3, at0, _, rfl, rfl, _, rfl, ?_⟩
      by_cases e : u = z
      · refine iteP (congrArg V.str e) ⟨_, rfl, _, _, rfl, rfl, some (.ref a), ?_, e2⟩
        rw [Tr.cnt, if_pos e]
        rfl
      · refine iteN (fun e' => e (V.str.inj e')) ⟨some (.ref a), ?_, e2⟩
        rw [Tr.cnt, if_neg e, Int.add_zero]
        rfl
    | loop m b' =>
      rw [TrAt] at hT
      obtain ⟨a, d, ws, rfl, sq3, sq4, r2⟩ := hT
      obtain ⟨c0, c1, ok2⟩ := okB_loop ok ht
      refine ⟨_, rfl, a, _, 0, .str "loop", rfl, rfl, sq3, rfl, rfl, _, rfl, iteP rfl ?_⟩
      refine ⟨_, rfl, _, rfl, a, _, 1, .int m, rfl, rfl, sq3, rfl, _, rfl, a, _, 2, .ref d, rfl, rfl, sq3, rfl, _, rfl, _, b', z, rfl, ⟨d, ws, rfl, sq4, r2⟩, ok2, hz, fun H2 sm => ?_⟩
      refine ⟨m, _, rfl, rfl, .inl ⟨by omega, by omega⟩, _, _, rfl, rfl, some (.ref a), ?_, e2.trans sm⟩
      rw [Tr.cnt]
      rfl
  · rintro σ H' ⟨y, rfl, e2⟩
    rw [r.length, take_all, ← cnts_map]
    exact ⟨_, rfl, q H' e2⟩
theorem ok_word (M : Bl mg) (F : At K mg "word_count" sWord_count ["program", "word"]) : ∀ n, Has P w K mg base n "word_count" ["program", "word"] (spWI K (okB n))
  | 0 => Has.none F fun vs H Q E ⟨_, _, _, _, _, h, _⟩ => h
  | n + 1 => ok_word1 M F (ok_word M F n)
theorem ok_read (F : At K mg "read_count" sRead_count ["program"]) {n k : Nat} (h : Has P w K mg base k "word_count" ["program", "word"] (spWI K (okB n))) : Has P w K mg base (k + 1) "read_count" ["program"] (spTI K (okB n) (cnts "read")) := by
  obtain ⟨fS, fdS, cWord_count⟩ := h
  refine Has.by F scRead_count (fun vs H Q E h => ?_) (fun f cdv A out s H vs Q E hg hr h => ?_)
  · obtain ⟨v, t, rfl, _⟩ := h
    rfl
  obtain ⟨v, b, rfl, hB, ok, q⟩ := h
  exact ⟨_, (pss_one (ps_ret (pe_cal cWord_count hg hr (by rfl) (pa_cons (pv 0) (pa_cons pe_str pa_nil))))), _, rfl, v, b, "read", rfl, hB, ok, by decide, q⟩
theorem ok_write (F : At K mg "write_count" sWrite_count ["program"]) {n k : Nat} (h : Has P w K mg base k "word_count" ["program", "word"] (spWI K (okB n))) : Has P w K mg base (k + 1) "write_count" ["program"] (spTI K (okB n) (cnts "write")) := by
  obtain ⟨fS, fdS, cWord_count⟩ := h
  refine Has.by F scWrite_count (fun vs H Q E h => ?_) (fun f cdv A out s H vs Q E hg hr h => ?_)
  · obtain ⟨v, t, rfl, _⟩ := h
    rfl
  obtain ⟨v, b, rfl, hB, ok, q⟩ := h
  exact ⟨_, (pss_one (ps_ret (pe_cal cWord_count hg hr (by rfl) (pa_cons (pv 0) (pa_cons pe_str pa_nil))))), _, rfl, v, b, "write", rfl, hB, ok, by decide, q⟩
end
/-- the name of the kind of data -/
def kdn : PyData → String
  | .none => "NoneType"
  | .bool _ => "bool"
  | .int _ => "int"
  | .str _ => "str"
  | .list _ => "list"
  | .tuple _ => "tuple"
  | .dict _ => "dict"
theorem Dd.kind {K : PySem.W.Frag} {H : Hp} {v : V} {d : PyData} (h : Dd K H v d) : TyX K H v (.type (kdn d)) := by
  cases h with
  | non => exact .base .non
  | bl b => exact .base (.bl b)
  | int i => exact .base (.int i)
  | str x => exact .base (.str x)
  | lst q r =>
    rcases q with (q | ⟨o, q⟩) | ⟨o, its, n, q, c, _⟩
    · exact .base (.lst q)
    · exact .base (.frz q)
    · exact .kList q c
  | tup q r =>
    rcases q with (q | ⟨o, q⟩) | ⟨o, its, n, q, c, _⟩
    · exact .base (.tup q)
    · exact .fTuple q
    · exact .kTuple q c
  | dct q e r => exact .base (.dK q)
section
variable {P : Program} {w : World} {K : PySem.W.Frag} {mg : Str → Option Value} {base : Heap}
/-! ### is_between -/
def spBtD (K : PySem.W.Frag) : Sp := fun vs H Q _ => ∃ (v : V) (d : PyData) (lo hi : Int), vs = [v, .int lo, .int hi] ∧ Dd K H v d ∧ Q (.bl (isBd lo hi d)) H
theorem ok_btD (M : Bl mg) (F : At K mg "is_between" sIs_between ["value", "low", "high"]) {k : Nat} : Has P w K mg base (k + 1) "is_between" ["value", "low", "high"] (spBtD K) := by
  refine Has.by F scIs_between (fun vs H Q E h => ?_) (fun f cdv A out s H vs Q E hg hr h => ?_)
  · obtain ⟨_, _, _, _, rfl, _⟩ := h
    rfl
  obtain ⟨v, d, lo, hi, rfl, dd, q⟩ := h
  refine ⟨_, (pss_one (ps_ret (pe_and (pe_callB call_isi (by rfl) M.isinstance_ (by decide +kernel) (pa_cons (pv 0) (pa_cons (pe_bltn (v := .ty "int") (by rfl) M.int_ (by decide +kernel) rfl) pa_nil))) (pe_and (pe_not (pe_callB call_isi (by rfl) M.isinstance_ (by decide +kernel) (pa_cons (pv 0) (pa_cons (pe_bltn (v := .ty "bool") (by rfl) M.bool_ (by decide +kernel) rfl) pa_nil)))) (pe_one (pe_chain op_le op_le (pv 1) (pv 0) (pv 2))))))), ?_⟩
  have ty := Dd.kind dd
  cases dd with
  | int v =>
    refine ⟨_, rfl, _, _, _, _, true, rfl, .ty _, (show TyX K H _ (.type "int") from ty), kit_ty (by decide +kernel), _, rfl, iteT ?_⟩
    refine ⟨_, rfl, _, _, _, _, false, rfl, .ty _, (show TyX K H _ (.type "int") from ty), kit_ty (by decide +kernel), _, rfl, _, rfl, iteT ?_⟩
    refine ⟨_, rfl, _, rfl, lo, v, rfl, rfl, _, rfl, ite2 (fun c => ?_) (fun c => ?_)⟩
    · have c' : decide (lo ≤ v) = true := c
      have q' : Q (.bl (decide (lo ≤ v) && decide (v ≤ hi))) H := q
      rw [c', Bool.true_and] at q'
      exact ⟨_, rfl, v, hi, rfl, rfl, q'⟩
    · have c' : decide (lo ≤ v) = false := Bool.eq_false_iff.mpr c
      have q' : Q (.bl (decide (lo ≤ v) && decide (v ≤ hi))) H := q
      rw [c', Bool.false_and] at q'
      exact q'
  | bl b =>
    refine ⟨_, rfl, _, _, _, _, true, rfl, .ty _, (show TyX K H _ (.type "bool") from ty), kit_ty (by decide +kernel), _, rfl, iteT ?_⟩
    exact ⟨_, rfl, _, _, _, _, true, rfl, .ty _, (show TyX K H _ (.type "bool") from ty), kit_ty (by decide +kernel), _, rfl, _, rfl, iteF q⟩
  | non => exact ⟨_, rfl, _, _, _, _, false, rfl, .ty _, (show TyX K H _ (.type "NoneType") from ty), kit_ty (by decide +kernel), _, rfl, iteF q⟩
  | str x => exact ⟨_, rfl, _, _, _, _, false, rfl, .ty _, (show TyX K H _ (.type "str") from ty), kit_ty (by decide +kernel), _, rfl, iteF q⟩
  | lst a r => exact ⟨_, rfl, _, _, _, _, false, rfl, .ty _, (show TyX K H _ (.type "list") from ty), kit_ty (by decide +kernel), _, rfl, iteF q⟩
  | tup a r => exact ⟨_, rfl, _, _, _, _, false, rfl, .ty _, (show TyX K H _ (.type "tuple") from ty), kit_ty (by decide +kernel), _, rfl, iteF q⟩
  | dct a e r => exact ⟨_, rfl, _, _, _, _, false, rfl, .ty _, (show TyX K H _ (.type "dict") from ty), kit_ty (by decide +kernel), _, rfl, iteF q⟩
/-! ### are_registers -/
def spRegs (K : PySem.W.Frag) : Sp := fun vs H Q _ => ∃ (n : Int) (a : Addr) (xs : List V) (ds : List PyData), vs = [.int n, .ref a] ∧ SqT K H a xs ∧ DdAll K H xs ds ∧ (ds.length = 1 ∨ ds.length = 2) ∧ ∀ H', Same H H' → Q (.bl (regsD n ds)) H'
theorem all_map (f : PyData → Bool) (ds : List PyData) : ((ds.map f).all id) = ds.all f := by
  induction ds with
  | nil => rfl
  | cons d ds ih => rw [List.map_cons, List.all_cons, List.all_cons, ih]; rfl
theorem take_snoc {α β : Type} (f : α → β) {ds : List α} {i : Nat} {d : α} (e : ds[i]? = some d) : (ds.take (i + 1)).map f = (ds.take i).map f ++ [f d] := by
  rw [List.take_add_one, e, List.map_append]
  rfl
theorem ok_regs (M : Bl mg) (F : At K mg "are_registers" sAre_registers ["n", "parts"]) {k : Nat} (h : Has P w K mg base k "is_between" ["value", "low", "high"] (spBtD K)) : Has P w K mg base (k + 1) "are_registers" ["n", "parts"] (spRegs K) := by
  obtain ⟨_, _, cIs_between⟩ := h
  refine Has.by F scAre_registers (fun vs H Q E h => ?_) (fun f cdv A out s H vs Q E hg hr h => ?_)
  · obtain ⟨_, _, _, _, rfl, _⟩ := h
    rfl
  obtain ⟨n, a, xs, ds, rfl, sq, da, dl, q⟩ := h
  have xl := da.length
  refine ⟨_, (pss_cons (ps_if (pt_not (pt_val (pe_callB (cr_all rfl) (by rfl) M.all_ (by decide +kernel) (pa_cons (pe_lc (own := [("part", 2)]) (g := gName 2) (by rfl) scAre_registers.nd (pi_tup (pv 1)) (blkOk_by (own := [("part", 2)]) (N := ["n", "parts", "part"]) (sc := defScope sAre_registers) (by decide +kernel)) (fun _ _ _ _ _ => (pg_name (i := 2) scAre_registers.nd rfl (.inl rfl))) (fun _ _ _ _ _ => pts_nil) (fun _ _ _ _ _ => (pe_cal cIs_between hg hr (by rfl) (pa_cons (pv 2) (pa_cons pe_int (pa_cons (pe_op op_sub (pv 0) pe_int) pa_nil)))))) pa_nil))))
    (pss_one (ps_ret pe_bl))
    pss_nil)
  (pss_one (ps_ret (pe_or (pe_cmpR op_eq (pe_callB call_len_seq (by rfl) M.len_ (by decide +kernel) (pa_cons (pv 1) pa_nil)) pe_int (nomark _)) (pe_one (pe_cmpR op_ne (pe_ix ix_tup (pv 1) pe_int (fun _ _ => rfl)) (pe_ix ix_tup (pv 1) pe_int (fun _ _ => rfl)) (nomark _))))))), ?_⟩
  refine ⟨_, rfl, a, rfl, ⟨_, sq⟩, fun D nD => ?_⟩
  refine lc_tup (xs := xs) (fun i H' => H' D = some (.lst (((ds.take i).map (isBd 0 (n - 1))).map V.bl)) ∧ Same H H') ⟨upd_same, same_new nD⟩ (fun i H' _ h => (Kt.same h.2).sq sq) ?_ ?_
  · rintro i x H1 hx ⟨e1, e2⟩
    obtain ⟨d, hd, dd⟩ := da.get hx
    refine ⟨rfl, _, rfl, _, rfl, n, 1, rfl, rfl, x, d, 0, n - 1, rfl, dd.same e2, _, e1, ?_, ?_, fun b o ho => ?_⟩
    · rw [List.length_map, List.length_map, List.length_take, sizeLine_eq]
      omega
    · rw [upd_same, take_snoc _ hd, List.map_append]
      rfl
    · rw [upd_ne (ne_of_none ho nD)]
      exact e2 _ _ ho
  rintro H1 ⟨e1, e2⟩
  rw [xl, List.take_length] at e1
  refine ⟨D, _, rfl, SqL.of e1, _, rfl, ?_⟩
  rw [all_map]
  by_cases c : ds.all (isBd 0 (n - 1)) = true
  · rw [c]
    refine iteF ?_
    obtain ⟨as, rfl⟩ := ints_of c
    have ex := dd_ints da
    subst ex
    have sq1 := (Kt.same e2).sq sq
    refine ⟨_, rfl, a, _, rfl, .inr sq1, rfl, _, rfl, ?_⟩
    match as, dl, sq1, q, c with
    | [x], _, _, q, c =>
      refine iteT ?_
      have := q H1 e2
      unfold regsD at this
      rw [c] at this
      exact this
    | [x, y], _, sq1, q, c =>
      refine iteF ?_
      refine ⟨_, rfl, a, _, 0, .int x, rfl, rfl, sq1, rfl, _, rfl, a, _, 1, .int y, rfl, rfl, sq1, rfl, rfl, ?_⟩
      have := q H1 e2
      unfold regsD at this
      rw [c] at this
      have e : (!decide (V.int x = V.int y)) = !sameI (.int x) (.int y) := by
        show _ = !decide (x = y)
        by_cases h : x = y
        · rw [decide_eq_true h, decide_eq_true (congrArg V.int h)]
        · rw [decide_eq_false h, decide_eq_false fun z => h (V.int.inj z)]
      rw [e]
      exact this
    | [], dl, _, _, _ => simp at dl
    | _ :: _ :: _ :: _, dl, _, _, _ => simp at dl
  · rw [Bool.eq_false_iff.mpr c]
    refine iteT ?_
    have := q H1 e2
    unfold regsD at this
    rw [Bool.eq_false_iff.mpr c, Bool.false_and] at this
    exact this
/-! ### has_shape -/
def leastV : Option Int → V
  | none => .non
  | some c => .int c
def ShpAt (K : PySem.W.Frag) (t : Addr) (s : Nat × Option Int) : Prop := ∀ H, SqT K H t [.int (s.1 : Int), leastV s.2]
def spShape (K : PySem.W.Frag) : Sp := fun vs H Q _ => ∃ (p n : Int) (t a : Addr) (s : Nat × Option Int) (xs : List V) (ds : List PyData), vs = [.int p, .int n, .ref t, .ref a] ∧ ShpAt K t s ∧ (s.1 = 1 ∨ s.1 = 2) ∧ SqT K H a xs ∧ DdAll K H xs ds ∧ ∀ H', Same H H' → Q (.bl (shapeD p n s ds)) H'
theorem dds_same {K : PySem.W.Frag} {H H' : Hp} {vs : List V} {ds : List PyData} (s : Same H H') (h : DdAll K H vs ds) : DdAll K H' vs ds := h.kt (fun q => s.seq q) (fun q => tup_same s q) (fun q => s _ _ q)
theorem dds_take {K : PySem.W.Frag} {H : Hp} : ∀ {vs : List V} {ds : List PyData} (i : Nat), DdAll K H vs ds → DdAll K H (vs.take i) (ds.take i)
  | _, _, 0, _ => .nil
  | _, _, i + 1, .nil => .nil
  | _, _, i + 1, .cons h t => .cons h (dds_take i t)
/-- a slice of a tuple -/
theorem any_cut {K : PySem.W.Frag} {H : Hp} {a : Addr} {xs ys : List V} {lo hi : Option Int} {Q : V → Hp → Prop} (sq : SqT K H a xs) (e : cutV xs lo hi = ys) (q : ∀ a' H', Same H H' → SqT K H' a' ys → Q (.ref a') H') : rSlA K (.ref a) lo hi H Q := by
  refine ⟨a, _, rfl, sq, fun h => ?_, fun _ p np => ?_⟩
  · have cw := cut_whole _ _ _ h
    rw [e] at cw
    exact q _ H (Same.refl H) (by rw [cw]; exact sq)
  · rw [e]
    exact q _ _ (same_new np) (SqT.of upd_same)
theorem decV {a b : Nat} : decide (V.int (a : Int) = V.int (b : Int)) = decide (a = b) := by
  by_cases h : a = b
  · rw [decide_eq_true h, decide_eq_true (by rw [h])]
  · rw [decide_eq_false h, decide_eq_false fun z => h (by have := V.int.inj z; omega)]
theorem ok_shape (M : Bl mg) (F : At K mg "has_shape" sHas_shape ["p", "n", "shape", "parts"]) {k : Nat} (h : Has P w K mg base k "is_between" ["value", "low", "high"] (spBtD K)) (h2 : Has P w K mg base k "are_registers" ["n", "parts"] (spRegs K)) : Has P w K mg base (k + 1) "has_shape" ["p", "n", "shape", "parts"] (spShape K) := by
  obtain ⟨_, _, cIs_between⟩ := h
  obtain ⟨_, _, cAre_registers⟩ := h2
  refine Has.by F scHas_shape (fun vs H Q E h => ?_) (fun f cdv A out s H vs Q E hg hr h => ?_)
  · obtain ⟨_, _, _, _, _, _, _, rfl, _⟩ := h
    rfl
  obtain ⟨p, n, t, a, ⟨many, least⟩, xs, ds, rfl, sh, hm, sq, da, q⟩ := h
  have xl := da.length
  refine ⟨_, (pss_cons (ps_asg (pv 2) (pg_tup rfl (pgs_cons (pg_name (i := 4) scHas_shape.nd rfl (.inl rfl)) (pgs_cons (pg_name (i := 5) scHas_shape.nd rfl (.inl rfl)) pgs_nil))))
  (pss_cons (ps_if (pt_cmpR op_isN (pv 5) pe_non (nomark _))
    (pss_one (ps_ret (pe_and (pe_cmpR op_eq (pe_callB call_len_seq (by rfl) M.len_ (by decide +kernel) (pa_cons (pv 3) pa_nil)) (pv 4) (nomark _)) (pe_one (pe_cal cAre_registers hg hr (by rfl) (pa_cons (pv 1) (pa_cons (pv 3) pa_nil)))))))
    pss_nil)
  (pss_one (ps_ret (pe_and (pe_cmpR op_eq (pe_callB call_len_seq (by rfl) M.len_ (by decide +kernel) (pa_cons (pv 3) pa_nil)) (pe_op op_add (pv 4) pe_int) (nomark _)) (pe_and (pe_cal cAre_registers hg hr (by rfl) (pa_cons (pv 1) (pa_cons (pe_slice sl_tupA (pv 3) po_none (po_some (pv 4))) pa_nil))) (pe_one (pe_cal cIs_between hg hr (by rfl) (pa_cons (pe_ix ix_tup (pv 3) (pv 4) (fun _ _ => rfl)) (pa_cons (pv 5) (pa_cons (pe_op op_sub (pv 0) pe_int) pa_nil))))))))))), ?_⟩
  refine ⟨_, rfl, t, _, rfl, sh H, rfl, _, _, rfl, _, _, rfl, rfl, ?_⟩
  cases least with
  | none =>
    refine ⟨_, rfl, rfl, _, rfl, iteT ?_⟩
    refine ⟨_, rfl, a, _, rfl, .inr sq, _, rfl, rfl, ?_⟩
    show ∃ d, V.bl (decide (V.int ((xs.length : Nat) : Int) = V.int ((many : Nat) : Int))) = V.bl d ∧ _
    rw [decV, xl]
    refine ⟨_, rfl, ?_⟩
    have q' : ∀ H', Same H H' → Q (.bl (decide (ds.length = many) && regsD n ds)) H' := q
    by_cases c : ds.length = many
    · rw [decide_eq_true c]
      refine iteT ⟨_, rfl, _, rfl, n, a, xs, ds, rfl, sq, da, by rw [c]; exact hm, fun H' s => ?_⟩
      have := q' H' s
      rw [decide_eq_true c] at this
      exact this
    · rw [decide_eq_false c]
      have := q' H (Same.refl H)
      rw [decide_eq_false c] at this
      exact iteF this
  | some cl =>
    refine ⟨_, rfl, rfl, _, rfl, iteF ?_⟩
    refine ⟨_, rfl, a, _, rfl, .inr sq, _, rfl, _, _, rfl, rfl, rfl, ?_⟩
    show ∃ d, V.bl (decide (V.int ((xs.length : Nat) : Int) = V.int (((many + 1 : Nat)) : Int))) = V.bl d ∧ _
    rw [decV, xl]
    refine ⟨_, rfl, ?_⟩
    have q' : ∀ H', Same H H' → Q (.bl (decide (ds.length = many + 1) && (regsD n (ds.take many) && isBd cl (p - 1) (ds.getD many .none)))) H' := q
    by_cases c : ds.length = many + 1
    · rw [decide_eq_true c]
      refine iteT ?_
      refine ⟨_, rfl, _, rfl, _, rfl, ((many : Nat) : Int), rfl, any_cut sq (cut_to xs many) fun a2 H2 s2 sq2 => ?_⟩
      refine ⟨n, a2, _, _, rfl, sq2, dds_take many (dds_same s2 da), by rw [List.length_take]; omega, fun H3 s3 => ?_⟩
      have s23 := s2.trans s3
      refine ⟨_, rfl, ?_⟩
      by_cases c2 : regsD n (ds.take many) = true
      · rw [c2]
        have lt : many < xs.length := by omega
        obtain ⟨d, hd, dd⟩ := da.get (i := many) (v := xs[many]) (List.getElem?_eq_getElem lt)
        refine iteT ⟨_, rfl, _, rfl, a, _, _, xs[many], rfl, rfl, (Kt.same s23).sq sq, atI_nat (List.getElem?_eq_getElem lt), _, rfl, _, rfl, p, 1, rfl, rfl, _, d, cl, p - 1, rfl, dd.same s23, ?_⟩
        have := q' H3 s23
        rw [decide_eq_true c, c2, List.getD_eq_getElem?_getD, hd] at this
        exact this
      · have := q' H3 s23
        rw [decide_eq_true c, Bool.eq_false_iff.mpr c2] at this
        rw [Bool.eq_false_iff.mpr c2]
        exact iteF this
    · rw [decide_eq_false c]
      have := q' H (Same.refl H)
      rw [decide_eq_false c] at this
      exact iteF this
end
end K58
set_option Elab.async false
set_option linter.all false
set_option maxRecDepth 100000
set_option pp.maxSteps 500
set_option pp.deepTerms.threshold 8
set_option pp.deepTerms false
namespace K58
open PySem PySem.Spec PyProof.Rows L2 Lj
section
variable {P : Program} {w : World} {K : PySem.W.Frag} {mg : Str → Option Value} {base : Heap}
/-- what the written part holds of the shapes -/
structure Shs (K : PySem.W.Frag) (w : World) (sh : Addr) : Prop where
  kd : ∃ es n, KDict K w sh es n
  get : ∀ z : Str, ∃ r, PySem.W.nsIn K sh z = some r ∧ ((shp z = none ∧ r = none) ∨ ∃ s t, shp z = some s ∧ r = some (.ref t) ∧ ShpAt K t s ∧ (s.1 = 1 ∨ s.1 = 2))
def lpL (p n : Int) : Nat → List PyData → Bool
  | 0, _ => false
  | lv + 1, ds => lpD p (okI p n lv) ds
theorem okI_eq (p n : Int) (lv : Nat) : okI p n lv = okS p n (lpL p n lv) := by
  cases lv with
  | zero => rfl
  | succ lv => rfl
def spIB (K : PySem.W.Frag) (lv : Nat) : Sp := fun vs H Q _ => ∃ (p n : Int) (v : V) (d : PyData), vs = [.int p, .int n, v, .int (lv : Int)] ∧ Dd K H v d ∧ lx d ≤ 10000000 ∧ ∀ H', Same H H' → Q (.bl (okBl (okI p n lv) d)) H'
def spIBm (K : PySem.W.Frag) : Nat → Sp
  | 0 => fun _ _ _ _ => False
  | lv + 1 => spIB K lv
def spIN (K : PySem.W.Frag) (lv : Nat) : Sp := fun vs H Q _ => ∃ (p n : Int) (v : V) (d : PyData), vs = [.int p, .int n, v, .int (lv : Int)] ∧ Dd K H v d ∧ lx d ≤ 10000000 ∧ ∀ H', Same H H' → Q (.bl (okI p n lv d)) H'
def spIL (K : PySem.W.Frag) (lv : Nat) : Sp := fun vs H Q _ => ∃ (p n : Int) (v : V) (ds : List PyData), vs = [.int p, .int n, v, .int (lv : Int)] ∧ Dd K H v (.tuple (.str "loop" :: ds)) ∧ lx (.tuple (.str "loop" :: ds)) ≤ 10000000 ∧ ∀ H', Same H H' → Q (.bl (lpL p n lv ds)) H'
theorem ok_loop (M : Bl mg) (F : At K mg "is_loop" sIs_loop ["p", "n", "value", "levels"]) {tM : Tok} (g_MAX_ROUNDS : mg "MAX_ROUNDS" = some (.int (10 ^ 18) tM)) {k lv : Nat} (h1 : Has P w K mg base k "is_between" ["value", "low", "high"] (spBtD K)) (h2 : Has P w K mg base k "is_body" ["p", "n", "value", "levels"] (spIBm K lv)) :
    Has P w K mg base (k + 1) "is_loop" ["p", "n", "value", "levels"] (spIL K lv) := by
  obtain ⟨_, _, cIs_between⟩ := h1
  obtain ⟨_, _, cIs_body⟩ := h2
  refine Has.by F scIs_loop (fun vs H Q E h => ?_) (fun f cdv A out s H vs Q E hg hr h => ?_)
  · obtain ⟨_, _, _, _, rfl, _⟩ := h
    rfl
  obtain ⟨p, n, v, ds, rfl, dd, hl, q⟩ := h
  refine ⟨_, (pss_one (ps_ret (pe_and (pe_cmpR op_gt (pv 3) pe_int (nomark _)) (pe_and (pe_cmpR op_eq (pe_callB call_len_seq (by rfl) M.len_ (by decide +kernel) (pa_cons (pv 2) pa_nil)) pe_int (nomark _)) (pe_and (pe_cal cIs_between hg hr (by rfl) (pa_cons (pe_ix ix_tup (pv 2) pe_int (fun _ _ => rfl)) (pa_cons pe_int (pa_cons (pe_glob (v := .int (10 ^ 18)) (by rfl) g_MAX_ROUNDS ⟨_, rfl⟩) pa_nil)))) (pe_one (pe_cal cIs_body hg hr (by rfl) (pa_cons (pv 0) (pa_cons (pv 1) (pa_cons (pe_ix ix_tup (pv 2) pe_int (fun _ _ => rfl)) (pa_cons (pe_op op_sub (pv 3) pe_int) pa_nil))))))))))), ?_⟩
  cases dd with
  | @tup a xs _ sq r =>
    cases lv with
    | zero =>
      refine ⟨_, rfl, _, _, rfl, rfl, _, rfl, iteF ?_⟩
      exact q H (Same.refl H)
    | succ lv =>
      refine ⟨_, rfl, ((lv + 1 : Nat) : Int), 0, rfl, rfl, _, rfl, ?_⟩
      rw [decide_eq_true (by omega)]
      refine iteT ⟨_, rfl, a, _, rfl, .inr sq, rfl, ?_⟩
      have xl := r.length
      show ∃ d, V.bl (decide (V.int ((xs.length : Nat) : Int) = V.int ((3 : Nat) : Int))) = V.bl d ∧ _
      rw [decV, xl]
      refine ⟨_, rfl, ?_⟩
      match ds, r, q, hl, xl with
      | [kd, b], r, q, hl, xl =>
        refine iteT ?_
        cases r with
        | @cons v0 vs0 _ _ h0 r =>
          cases r with
          | @cons vk vs1 _ _ hk r =>
            cases r with
            | @cons vb vs2 _ _ hb r =>
              cases r
              refine ⟨_, rfl, a, _, 1, vk, rfl, rfl, sq, rfl, _, kd, 0, 10 ^ 18, rfl, hk, ?_⟩
              have q' : ∀ H', Same H H' → Q (.bl (isBd 0 (10 ^ 18) kd && okBl (okI p n lv) b)) H' := q
              refine ⟨_, rfl, ?_⟩
              by_cases c : isBd 0 (10 ^ 18) kd = true
              · rw [c]
                refine iteT ⟨_, rfl, _, rfl, _, rfl, a, _, 2, vb, rfl, rfl, sq, rfl, _, rfl, _, _, rfl, rfl, p, n, vb, b, ?_, hb, Nat.le_trans (lx_tup (ds := [.str "loop", kd, b]) (by simp)) hl, fun H' s => ?_⟩
                · show [V.int p, V.int n, vb, V.int (((lv + 1 : Nat) : Int) - 1)] = _
                  rw [show ((lv + 1 : Nat) : Int) - 1 = (lv : Int) by omega]
                · have := q' H' s
                  rw [c] at this
                  exact this
              · have := q' H (Same.refl H)
                rw [Bool.eq_false_iff.mpr c] at this
                rw [Bool.eq_false_iff.mpr c]
                exact iteF this
      | [], r, q, hl, xl => exact iteF (q H (Same.refl H))
      | [_], r, q, hl, xl => exact iteF (q H (Same.refl H))
      | _ :: _ :: _ :: ds, r, q, hl, xl =>
        rw [decide_eq_false (by simp)]
        exact iteF (q H (Same.refl H))
theorem ok_instr (M : Bl mg) (m_str : mg "str" = none) (F : At K mg "is_instruction" sIs_instruction ["p", "n", "value", "levels"]) {sh : Addr} (g_SHAPES : mg "SHAPES" = some (.ref sh)) (S : Shs K w sh) {k lv : Nat} (h1 : Has P w K mg base k "is_loop" ["p", "n", "value", "levels"] (spIL K lv)) (h2 : Has P w K mg base k "has_shape" ["p", "n", "shape", "parts"] (spShape K)) :
    Has P w K mg base (k + 1) "is_instruction" ["p", "n", "value", "levels"] (spIN K lv) := by
  obtain ⟨_, _, cIs_loop⟩ := h1
  obtain ⟨_, _, cHas_shape⟩ := h2
  obtain ⟨es, ne, kd⟩ := S.kd
  refine Has.by F scIs_instruction (fun vs H Q E h => ?_) (fun f cdv A out s H vs Q E hg hr h => ?_)
  · obtain ⟨_, _, _, _, rfl, _⟩ := h
    rfl
  obtain ⟨p, n, v, d, rfl, dd, hl, q⟩ := h
  rw [okI_eq] at q
  refine ⟨_, (pss_cons (ps_if (PW.pt (pw_or (pt_not (pt_val (pe_callB call_isi (by rfl) M.isinstance_ (by decide +kernel) (pa_cons (pv 2) (pa_cons (pe_bltn (v := .ty "tuple") (by rfl) M.tuple_ (by decide +kernel) rfl) pa_nil))))) (pw_or (pt_cmpR (op_eq0 hr.units) (pv 2) (pe_tup pa_nil) (nomark _)) (pw_or1 (pt_not (pt_val (pe_callB call_isi (by rfl) M.isinstance_ (by decide +kernel) (pa_cons (pe_ix ix_tup (pv 2) pe_int (fun _ _ => rfl)) (pa_cons (pe_bltn (v := .ty "str") (by rfl) m_str (by decide +kernel) rfl) pa_nil)))))))))
    (pss_one (ps_ret pe_bl))
    pss_nil)
  (pss_cons (ps_if (pt_cmpR op_eq (pe_ix ix_tup (pv 2) pe_int (fun _ _ => rfl)) pe_str (nomark _))
    (pss_one (ps_ret (pe_cal cIs_loop hg hr (by rfl) (pa_cons (pv 0) (pa_cons (pv 1) (pa_cons (pv 2) (pa_cons (pv 3) pa_nil)))))))
    pss_nil)
  (pss_one (ps_ret (pe_and (pe_cmpR (op_in_kd kd) (pe_ix ix_tup (pv 2) pe_int (fun _ _ => rfl)) (pe_glob (v := .ref sh) (by rfl) g_SHAPES rfl) (by rfl)) (pe_one (pe_cal cHas_shape hg hr (by rfl) (pa_cons (pv 0) (pa_cons (pv 1) (pa_cons (pe_ix ix_kdict (pe_glob (v := .ref sh) (by rfl) g_SHAPES rfl) (pe_ix ix_tup (pv 2) pe_int (fun _ _ => rfl)) (fun _ _ => rfl)) (pa_cons (pe_slice sl_tupA (pv 2) (po_some pe_int) po_none) pa_nil))))))))))), ?_⟩
  have ty := Dd.kind dd
  have ddv := dd
  cases dd with
  | int i => exact ⟨_, rfl, _, _, _, _, false, rfl, .ty _, (show TyX K H _ (.type "int") from ty), kit_ty (by decide +kernel), _, rfl, iteT (q H (Same.refl H))⟩
  | bl i => exact ⟨_, rfl, _, _, _, _, false, rfl, .ty _, (show TyX K H _ (.type "bool") from ty), kit_ty (by decide +kernel), _, rfl, iteT (q H (Same.refl H))⟩
  | non => exact ⟨_, rfl, _, _, _, _, false, rfl, .ty _, (show TyX K H _ (.type "NoneType") from ty), kit_ty (by decide +kernel), _, rfl, iteT (q H (Same.refl H))⟩
  | str i => exact ⟨_, rfl, _, _, _, _, false, rfl, .ty _, (show TyX K H _ (.type "str") from ty), kit_ty (by decide +kernel), _, rfl, iteT (q H (Same.refl H))⟩
  | lst a r => exact ⟨_, rfl, _, _, _, _, false, rfl, .ty _, (show TyX K H _ (.type "list") from ty), kit_ty (by decide +kernel), _, rfl, iteT (q H (Same.refl H))⟩
  | dct a e r => exact ⟨_, rfl, _, _, _, _, false, rfl, .ty _, (show TyX K H _ (.type "dict") from ty), kit_ty (by decide +kernel), _, rfl, iteT (q H (Same.refl H))⟩
  | @tup a xs ds sq r =>
    refine ⟨_, rfl, _, _, _, _, true, rfl, .ty _, (show TyX K H _ (.type "tuple") from ty), kit_ty (by decide +kernel), _, rfl, iteF ?_⟩
    refine ⟨_, rfl, (by show 0 ≤ sizeLine; decide), fun t0 nt0 => ?_⟩
    have s0 := same_new (o := .tup []) nt0
    refine ⟨a, t0, xs, rfl, rfl, (Kt.same s0).sq sq, SqT.of upd_same, _, rfl, ?_⟩
    cases r with
    | nil => exact iteT (q _ s0)
    | @cons v0 vs0 d0 ds0 h0 r =>
      refine iteF ?_
      have sq0 := (Kt.same s0).sq sq
      have ty0 := Dd.kind (h0.same s0)
      refine ⟨_, rfl, a, _, 0, v0, rfl, rfl, sq0, at0, ?_⟩
      cases h0 with
      | int i => exact ⟨_, _, _, _, false, rfl, .ty _, (show TyX K _ _ (.type "int") from ty0), kit_ty (by decide +kernel), _, rfl, iteT (q _ s0)⟩
      | bl i => exact ⟨_, _, _, _, false, rfl, .ty _, (show TyX K _ _ (.type "bool") from ty0), kit_ty (by decide +kernel), _, rfl, iteT (q _ s0)⟩
      | non => exact ⟨_, _, _, _, false, rfl, .ty _, (show TyX K _ _ (.type "NoneType") from ty0), kit_ty (by decide +kernel), _, rfl, iteT (q _ s0)⟩
      | lst _ _ => exact ⟨_, _, _, _, false, rfl, .ty _, (show TyX K _ _ (.type "list") from ty0), kit_ty (by decide +kernel), _, rfl, iteT (q _ s0)⟩
      | tup _ _ => exact ⟨_, _, _, _, false, rfl, .ty _, (show TyX K _ _ (.type "tuple") from ty0), kit_ty (by decide +kernel), _, rfl, iteT (q _ s0)⟩
      | dct _ _ _ => exact ⟨_, _, _, _, false, rfl, .ty _, (show TyX K _ _ (.type "dict") from ty0), kit_ty (by decide +kernel), _, rfl, iteT (q _ s0)⟩
      | str z =>
        refine ⟨_, _, _, _, true, rfl, .ty _, (show TyX K _ _ (.type "str") from ty0), kit_ty (by decide +kernel), _, rfl, iteF ?_⟩
        refine ⟨_, rfl, a, _, 0, .str z, rfl, rfl, sq0, at0, rfl, _, rfl, ?_⟩
        have q' : ∀ H', Same H H' → Q (.bl (if z = "loop" then lpL p n lv ds0 else match shp z with | none => false | some s => shapeD p n s ds0)) H' := q
        by_cases c : z = "loop"
        · subst c
          refine iteP rfl ⟨_, rfl, _, rfl, _, rfl, _, rfl, p, n, _, ds0, rfl, ddv.same s0, hl, fun H' s => ?_⟩
          exact q' H' (s0.trans s)
        · refine iteN (fun e => c (V.str.inj e)) ?_
          rw [if_neg c] at q'
          obtain ⟨r9, e9, h9⟩ := S.get z
          refine ⟨_, rfl, a, _, 0, .str z, rfl, rfl, sq0, at0, z, r9, rfl, rfl, e9, ?_⟩
          rcases h9 with ⟨en, rfl⟩ | ⟨sp, t, es9, rfl, sa, sm⟩
          · rw [en] at q'
            exact ⟨_, rfl, iteF (q' _ s0)⟩
          · rw [es9] at q'
            refine ⟨_, rfl, iteT ?_⟩
            refine ⟨_, rfl, _, rfl, _, rfl, a, _, 0, .str z, rfl, rfl, sq0, at0, sh, z, .ref t, rfl, rfl, ⟨es, ne, .ref t, kd.at_, kd.lit, e9, rfl⟩, ?_⟩
            refine ⟨_, rfl, 1, rfl, ?_⟩
            dsimp only [tNoPart]
            refine any_cut (ys := vs0) sq0 (cut_tail _ _) fun a2 H2 s2 sq2 => ?_
            exact ⟨p, n, t, a2, sp, vs0, ds0, rfl, sa, sm, sq2, dds_same (s0.trans s2) r, fun H' s => q' H' ((s0.trans s2).trans s)⟩
theorem ok_body1 (M : Bl mg) (F : At K mg "is_body" sIs_body ["p", "n", "value", "levels"]) {k lv : Nat} (h1 : Has P w K mg base k "is_instruction" ["p", "n", "value", "levels"] (spIN K lv)) :
    Has P w K mg base (k + 1) "is_body" ["p", "n", "value", "levels"] (spIB K lv) := by
  obtain ⟨_, _, cIs_instruction⟩ := h1
  refine Has.by F scIs_body (fun vs H Q E h => ?_) (fun f cdv A out s H vs Q E hg hr h => ?_)
  · obtain ⟨_, _, _, _, rfl, _⟩ := h
    rfl
  obtain ⟨p, n, v, d, rfl, dd, hl, q⟩ := h
  refine ⟨_, (pss_one (ps_ret (pe_and (pe_callB call_isi (by rfl) M.isinstance_ (by decide +kernel) (pa_cons (pv 2) (pa_cons (pe_bltn (v := .ty "tuple") (by rfl) M.tuple_ (by decide +kernel) rfl) pa_nil))) (pe_one (pe_callB (cr_all rfl) (by rfl) M.all_ (by decide +kernel) (pa_cons (pe_lc (own := [("part", 4)]) (g := gName 4) (by rfl) scIs_body.nd (pi_tup (pv 2)) (blkOk_by (own := [("part", 4)]) (N := ["p", "n", "value", "levels", "part"]) (sc := defScope sIs_body) (by decide +kernel)) (fun _ _ _ _ _ => (pg_name (i := 4) scIs_body.nd rfl (.inl rfl))) (fun _ _ _ _ _ => pts_nil) (fun _ _ _ _ _ => (pe_cal cIs_instruction hg hr (by rfl) (pa_cons (pv 0) (pa_cons (pv 1) (pa_cons (pv 4) (pa_cons (pv 3) pa_nil))))))) pa_nil)))))), ?_⟩
  have ty := Dd.kind dd
  cases dd with
  | int i => exact ⟨_, rfl, _, _, _, _, false, rfl, .ty _, (show TyX K H _ (.type "int") from ty), kit_ty (by decide +kernel), _, rfl, iteF (q H (Same.refl H))⟩
  | bl i => exact ⟨_, rfl, _, _, _, _, false, rfl, .ty _, (show TyX K H _ (.type "bool") from ty), kit_ty (by decide +kernel), _, rfl, iteF (q H (Same.refl H))⟩
  | non => exact ⟨_, rfl, _, _, _, _, false, rfl, .ty _, (show TyX K H _ (.type "NoneType") from ty), kit_ty (by decide +kernel), _, rfl, iteF (q H (Same.refl H))⟩
  | str i => exact ⟨_, rfl, _, _, _, _, false, rfl, .ty _, (show TyX K H _ (.type "str") from ty), kit_ty (by decide +kernel), _, rfl, iteF (q H (Same.refl H))⟩
  | lst a r => exact ⟨_, rfl, _, _, _, _, false, rfl, .ty _, (show TyX K H _ (.type "list") from ty), kit_ty (by decide +kernel), _, rfl, iteF (q H (Same.refl H))⟩
  | dct a e r => exact ⟨_, rfl, _, _, _, _, false, rfl, .ty _, (show TyX K H _ (.type "dict") from ty), kit_ty (by decide +kernel), _, rfl, iteF (q H (Same.refl H))⟩
  | @tup a xs ds sq r =>
    refine ⟨_, rfl, _, _, _, _, true, rfl, .ty _, (show TyX K H _ (.type "tuple") from ty), kit_ty (by decide +kernel), _, rfl, iteT ?_⟩
    refine ⟨_, rfl, a, rfl, ⟨_, sq⟩, fun D nD => ?_⟩
    have xl := r.length
    have dlen : ds.length ≤ 10000000 := Nat.le_trans (lx_len ds) hl
    refine lc_tup (xs := xs) (fun i H' => H' D = some (.lst (((ds.take i).map (okI p n lv)).map V.bl)) ∧ Same H H') ⟨upd_same, same_new nD⟩ (fun i H' _ h => (Kt.same h.2).sq sq) ?_ ?_
    · rintro i x H1 hx ⟨e1, e2⟩
      obtain ⟨d, hd, dd⟩ := r.get hx
      refine ⟨rfl, _, rfl, _, rfl, _, rfl, _, rfl, p, n, x, d, rfl, dd.same e2, Nat.le_trans (lx_tup (List.mem_of_getElem? hd)) hl, fun H2 s2 => ⟨_, s2 _ _ e1, ?_, ?_, fun b o ho => ?_⟩⟩
      · rw [List.length_map, List.length_map, List.length_take, sizeLine_eq]
        omega
      · rw [upd_same, take_snoc _ hd, List.map_append]
        rfl
      · rw [upd_ne (ne_of_none ho nD)]
        exact s2 _ _ (e2 _ _ ho)
    rintro H1 ⟨e1, e2⟩
    rw [xl, List.take_length] at e1
    refine ⟨D, _, rfl, SqL.of e1, ?_⟩
    rw [all_map]
    exact q H1 e2
theorem ok_isbody (M : Bl mg) (m_str : mg "str" = none) (FB : At K mg "is_body" sIs_body ["p", "n", "value", "levels"]) (FI : At K mg "is_instruction" sIs_instruction ["p", "n", "value", "levels"]) (FL : At K mg "is_loop" sIs_loop ["p", "n", "value", "levels"]) {tM : Tok} (gM : mg "MAX_ROUNDS" = some (.int (10 ^ 18) tM)) {sh : Addr} (gS : mg "SHAPES" = some (.ref sh)) (S : Shs K w sh)
    (h1 : Has P w K mg base 1 "is_between" ["value", "low", "high"] (spBtD K)) (h2 : Has P w K mg base 3 "has_shape" ["p", "n", "shape", "parts"] (spShape K)) : ∀ lv : Nat, Has P w K mg base (3 * lv + 5) "is_body" ["p", "n", "value", "levels"] (spIB K lv)
  | 0 => ok_body1 M FB (ok_instr M m_str FI gS S ((ok_loop (lv := 0) M FL gM h1 (Has.none (k := 1) FB fun _ _ _ _ h => h)).up (by decide)) h2)
  | lv + 1 => ((ok_body1 M FB (ok_instr M m_str FI gS S (ok_loop M FL gM (h1.up (by omega)) (ok_isbody M m_str FB FI FL gM gS S h1 h2 lv)) (h2.up (by omega)))).up (by omega))
/-! ### is_program -/
/-- what is asked of a program that is passed in -/
def okP (p n : Int) (d : PyData) (b : List Tr) : Bool := okBl (okI p n 4) d && (decide (szs b ≤ 200) && (decide (cnts "read" b ≤ 2000) && decide (cnts "write" b ≤ 2000)))
def spIP (K : PySem.W.Frag) : Sp := fun vs H Q _ => ∃ (p n : Int) (v : V) (d : PyData) (b : List Tr), vs = [.int p, .int n, v] ∧ Dd K H v d ∧ lx d ≤ 10000000 ∧ (okBl (okI p n 4) d = true → BodyAt K H b v ∧ okB 5 b) ∧ ∀ H', Same H H' → Q (.bl (okP p n d b)) H'
theorem ok_isprog (F : At K mg "is_program" sIs_program ["p", "n", "value"]) {t1 t2 t3 t4 : Tok} (g_MAX_DEPTH : mg "MAX_DEPTH" = some (.int 4 t1)) (g_MAX_SIZE : mg "MAX_SIZE" = some (.int 200 t2)) (g_MAX_READS : mg "MAX_READS" = some (.int 2000 t3)) (g_MAX_WRITES : mg "MAX_WRITES" = some (.int 2000 t4)) {k : Nat} (h1 : Has P w K mg base k "is_body" ["p", "n", "value", "levels"] (spIB K 4)) (h2 : Has P w K mg base k "size" ["program"] (spTI K (okB 5) szs))
    (h3 : Has P w K mg base k "read_count" ["program"] (spTI K (okB 5) (cnts "read"))) (h4 : Has P w K mg base k "write_count" ["program"] (spTI K (okB 5) (cnts "write"))) : Has P w K mg base (k + 1) "is_program" ["p", "n", "value"] (spIP K) := by
  obtain ⟨_, _, cIs_body⟩ := h1
  obtain ⟨_, _, cSize⟩ := h2
  obtain ⟨_, _, cRead_count⟩ := h3
  obtain ⟨_, _, cWrite_count⟩ := h4
  refine Has.by F scIs_program (fun vs H Q E h => ?_) (fun f cdv A out s H vs Q E hg hr h => ?_)
  · obtain ⟨_, _, _, _, _, rfl, _⟩ := h
    rfl
  obtain ⟨p, n, v, d, b, rfl, dd, hl, hb, q⟩ := h
  refine ⟨_, (pss_one (ps_ret (pe_and (pe_cal cIs_body hg hr (by rfl) (pa_cons (pv 0) (pa_cons (pv 1) (pa_cons (pv 2) (pa_cons (pe_glob (v := .int 4) (by rfl) g_MAX_DEPTH ⟨_, rfl⟩) pa_nil))))) (pe_and (pe_cmpR op_le (pe_cal cSize hg hr (by rfl) (pa_cons (pv 2) pa_nil)) (pe_glob (v := .int 200) (by rfl) g_MAX_SIZE ⟨_, rfl⟩) (nomark _)) (pe_and (pe_cmpR op_le (pe_cal cRead_count hg hr (by rfl) (pa_cons (pv 2) pa_nil)) (pe_glob (v := .int 2000) (by rfl) g_MAX_READS ⟨_, rfl⟩) (nomark _)) (pe_one (pe_cmpR op_le (pe_cal cWrite_count hg hr (by rfl) (pa_cons (pv 2) pa_nil)) (pe_glob (v := .int 2000) (by rfl) g_MAX_WRITES ⟨_, rfl⟩) (nomark _)))))))), ?_⟩
  refine ⟨_, rfl, _, rfl, _, rfl, p, n, v, d, rfl, dd, hl, fun H1 s1 => ⟨_, rfl, ?_⟩⟩
  unfold okP at q
  by_cases c : okBl (okI p n 4) d = true
  · obtain ⟨ba, ok⟩ := hb c
    rw [c] at q ⊢
    refine iteT ⟨_, rfl, v, b, rfl, ba.kt (Kt.same s1), ok, fun H2 s2 => ⟨_, _, rfl, rfl, _, rfl, ?_⟩⟩
    have s12 := s1.trans s2
    by_cases c2 : szs b ≤ 200
    · rw [decide_eq_true c2] at q ⊢
      refine iteT ⟨_, rfl, v, b, rfl, ba.kt (Kt.same s12), ok, fun H3 s3 => ⟨_, _, rfl, rfl, _, rfl, ?_⟩⟩
      have s13 := s12.trans s3
      by_cases c3 : cnts "read" b ≤ 2000
      · rw [decide_eq_true c3] at q ⊢
        exact iteT ⟨_, rfl, v, b, rfl, ba.kt (Kt.same s13), ok, fun H4 s4 => ⟨_, _, rfl, rfl, q H4 (s13.trans s4)⟩⟩
      · rw [decide_eq_false c3] at q ⊢
        exact iteF (q H3 s13)
    · rw [decide_eq_false c2] at q ⊢
      exact iteF (q H2 s12)
  · rw [Bool.eq_false_iff.mpr c] at q ⊢
    exact iteF (q H1 s1)
end
end K58
set_option Elab.async false
set_option linter.all false
set_option maxRecDepth 100000
set_option pp.maxSteps 500
set_option pp.deepTerms.threshold 8
set_option pp.deepTerms false
namespace K58
open PySem PySem.Spec PyProof.Rows L2 Lj
section
variable {P : Program} {w : World} {K : PySem.W.Frag} {mg : Str → Option Value} {base : Heap} {C : Addr}
open TL
/-! ### the reader -/
def spRdI (K : PySem.W.Frag) (C : Addr) : Sp := fun vs H Q _ => ∃ (H0 : Hp) (x dx : Addr) (p n : Int), vs = [.ref x, .int p, .int n] ∧ Same H0 H ∧ H0 x = none ∧ H x = some (.ins C dx []) ∧ ∀ H', RdAt K C H0 H' x p n ([[]], []) → Q .non H'
theorem ok_rdinit (F : KAt K mg C "Reader" "Reader.__init__" sReader_init ["self", "p", "n"]) (T : DTx K mg C) {k : Nat} : KHas P w K mg base (k + 1) C "Reader" ["self", "p", "n"] (spRdI K C) := by
  refine KHas.by F scReader_init (fun vs H Q E h => ?_) (fun f cdv A out s H vs Q E hg hr h => ?_)
  · obtain ⟨_, _, _, _, _, rfl, _⟩ := h
    rfl
  obtain ⟨H0, x, dx, p, n, rfl, s0, nx, hx, q⟩ := h
  refine ⟨_, (pss_cons (ps_fld (pv 0) (pv 1) rfl)
  (pss_cons (ps_fld (pv 0) (pv 2) rfl)
  (pss_cons (ps_fld (pv 0) (pe_lst (pa_cons (pe_lst pa_nil) pa_nil)) rfl)
  (pss_one (ps_fld (pv 0) (pe_lst pa_nil) rfl))))), ?_⟩
  refine ⟨_, rfl, _, rfl, x, C, dx, [], rfl, hx, T.cl, T.nP, (by show 0 < 1000; decide), ?_⟩
  refine ⟨_, rfl, _, rfl, x, C, dx, _, rfl, upd_same, T.cl, T.nN, (by show 1 < 1000; decide), ?_⟩
  generalize eH1 : upd (upd H x _) x _ = H1
  have s1 : Same H0 H1 := by
    rw [← eH1]
    exact same_upd (same_upd s0 nx) nx
  have hx1 : H1 x = some (.ins C dx (putF "n" (.int n) (putF "p" (.int p) []))) := by
    rw [← eH1]
    exact upd_same
  clear eH1
  refine ⟨Nat.zero_le _, fun a na => ?_⟩
  have sa := same_new (H := H1) (o := .lst []) na
  have ha := upd_same (H := H1) (a := a) (o := .lst [])
  generalize upd H1 a (.lst []) = H2 at sa ha ⊢
  refine ⟨(by show 1 ≤ sizeLine; decide), fun lb nb => ?_⟩
  have sb := same_new (H := H2) (o := .lst [V.ref a]) nb
  have hb := upd_same (H := H2) (a := lb) (o := .lst [V.ref a])
  generalize upd H2 lb (.lst [V.ref a]) = H3 at sb hb ⊢
  have hx3 := sb _ _ (sa _ _ hx1)
  have s3 : Same H0 H3 := s1.trans (sa.trans sb)
  have a0 : H0 a = none := s1.free na
  have b0 : H0 lb = none := (s1.trans sa).free nb
  have nab : a ≠ lb := ne_of_none ha nb
  have nax : a ≠ x := (ne_of_none hx1 na).symm
  have nbx : lb ≠ x := (ne_of_none (sa _ _ hx1) nb).symm
  refine ⟨_, rfl, x, C, dx, _, rfl, hx3, T.cl, T.nB, (by show 2 < 1000; decide), ?_⟩
  generalize eH4 : upd H3 x _ = H4
  have s4 : Same H0 H4 := by
    rw [← eH4]
    exact same_upd s3 nx
  have ha4 : H4 a = some (.lst []) := by
    rw [← eH4]
    exact (upd_ne nax).trans (sb _ _ ha)
  have hb4 : H4 lb = some (.lst [V.ref a]) := by
    rw [← eH4]
    exact (upd_ne nbx).trans hb
  have hx4 : H4 x = some (.ins C dx (putF "bodies" (.ref lb) (putF "n" (.int n) (putF "p" (.int p) [])))) := by
    rw [← eH4]
    exact upd_same
  clear eH4
  refine ⟨Nat.zero_le _, fun lr nr => ?_⟩
  have sr := same_new (H := H4) (o := .lst []) nr
  have hr' := upd_same (H := H4) (a := lr) (o := .lst [])
  generalize upd H4 lr (.lst []) = H5 at sr hr' ⊢
  have r0 : H0 lr = none := s4.free nr
  have nrx : lr ≠ x := (ne_of_none hx4 nr).symm
  have nbr : lb ≠ lr := ne_of_none hb4 nr
  have nar : a ≠ lr := ne_of_none ha4 nr
  refine ⟨_, rfl, x, C, dx, _, rfl, sr _ _ hx4, T.cl, T.nR, (by show 3 < 1000; decide), ?_⟩
  refine q _ ⟨same_upd (s4.trans sr) nx, nx, dx, lb, lr, [a], b0, r0, nbr, upd_same, (upd_ne nbx).trans (sr _ _ hb4), (upd_ne nrx).trans hr', List.nodup_cons.mpr ⟨List.not_mem_nil, List.nodup_nil⟩, ?_⟩
  exact .cons ⟨a0, nab, nar, [], (upd_ne nax).trans (sr _ _ ha4), TrsAt.nil⟩ .nil
theorem okI_shp {p n : Int} {z : Str} {ds : List PyData} {s : Nat × Option Int} (nl : z ≠ "loop") (h : shp z = some s) (k : shapeD p n s ds = true) : okI p n 0 (.tuple (.str z :: ds)) = true := by
  show (if z = "loop" then false else match shp z with | none => false | some s => shapeD p n s ds) = true
  rw [if_neg nl, h]
  exact k
theorem isBd_yes {lo hi i : Int} (h1 : lo ≤ i) (h2 : i ≤ hi) : isBd lo hi (.int i) = true := by
  show (decide (lo ≤ i) && decide (i ≤ hi)) = true
  rw [decide_eq_true h1, decide_eq_true h2]
  rfl
theorem okI_good {p n : Int} {z : Str} {as : List Int} (g : GoodOp p n z as) : okI p n 0 (.tuple (.str z :: as.map .int)) = true := by
  have nl := w7_noloop (GoodOp.w7 g)
  rcases g with ⟨hz, x, c, rfl, h1, h2, h3, h4⟩ | ⟨hz, x, rfl, h1, h2⟩ | ⟨hz, x, y, rfl, h1, h2, h3, h4, h5⟩ | ⟨hz, x, y, c, rfl, h1, h2, h3, h4, h5, h6, h7⟩
  · refine okI_shp (s := (1, some 0)) nl (by rcases hz with rfl | rfl <;> decide) ?_
    show (decide (2 = 1 + 1) && ((isBd 0 (n - 1) (.int x) && true) && true && isBd 0 (p - 1) (.int c))) = true
    rw [isBd_yes h1 (by omega), isBd_yes h3 (by omega)]
    rfl
  · refine okI_shp (s := (1, none)) nl (by rcases hz with rfl | rfl <;> decide) ?_
    show (decide (1 = 1) && ((isBd 0 (n - 1) (.int x) && true) && true)) = true
    rw [isBd_yes h1 (by omega)]
    rfl
  · refine okI_shp (s := (2, none)) nl (by rcases hz with rfl | rfl <;> decide) ?_
    show (decide (2 = 2) && ((isBd 0 (n - 1) (.int x) && (isBd 0 (n - 1) (.int y) && true)) && !decide (x = y))) = true
    rw [isBd_yes h1 (by omega), isBd_yes h3 (by omega), decide_eq_false h5]
    rfl
  · subst hz
    refine okI_shp (s := (2, some 1)) nl (by decide) ?_
    show (decide (3 = 2 + 1) && (((isBd 0 (n - 1) (.int x) && (isBd 0 (n - 1) (.int y) && true)) && !decide (x = y)) && isBd 1 (p - 1) (.int c))) = true
    rw [isBd_yes h1 (by omega), isBd_yes h3 (by omega), decide_eq_false h5, isBd_yes h6 (by omega)]
    rfl
/-- words of a step, any -/
def spTsA (K : PySem.W.Frag) (C : Addr) : Sp := fun vs H Q _ => ∃ (H0 : Hp) (x l : Addr) (p n : Int) (b : List Tr) (B : List (List Tr)) (R : List Int) (z : Str) (us : List Str), vs = [.ref x, .ref l] ∧ RdAt K C H0 H x p n (b :: B, R) ∧ b.length ≤ 1000 ∧ H l = some (.lst ((z :: us).map V.str)) ∧ us.length ≤ 9000000 ∧ (∀ u ∈ us, u.length ≤ 10000000) ∧ z ≠ "loop" ∧ p ≤ 10007 ∧ n ≤ 8 ∧
  (stpOk p n z (us.map (nmK 80)) = false → ∀ H', RdAt K C H0 H' x p n (b :: B, R) → Q (.bl false) H') ∧
  (stpOk p n z (us.map (nmK 80)) = true → ∀ H', RdAt K C H0 H' x p n (rdS (b :: B, R) (0, .op z ((us.map (nmK 80)).filterMap id))) → Q (.bl true) H')
theorem onV_dd {H : Hp} : ∀ os : List (Option Int), DdAll K H (os.map onV) (os.map oD)
  | [] => .nil
  | none :: os => .cons .non (onV_dd os)
  | some i :: os => .cons (.int i) (onV_dd os)
theorem oD_lxs : ∀ os : List (Option Int), lxs (os.map oD) = 0
  | [] => rfl
  | o :: os => by
    rw [List.map_cons, lxs, oD_lxs os]
    cases o <;> rfl
theorem onV_some (as : List Int) : (as.map some).map onV = as.map V.int := by
  rw [List.map_map]
  rfl
set_option maxHeartbeats 4000000 in
theorem ok_tstepA (M : Bl mg) (F : MAt K C "takes_step" "Reader.takes_step" sReader_takes_step ["self", "words"]) (T : DTx K mg C) {k : Nat} (h1 : Has P w K mg base k "number_of" ["word"] (spNoA 80)) (h2 : Has P w K mg base k "is_instruction" ["p", "n", "value", "levels"] (spIN K 0)) : MHas P w K mg base (k + 1) C "takes_step" ["self", "words"] (spTsA K C) := by
  obtain ⟨_, _, cNumber_of⟩ := h1
  obtain ⟨_, _, cIs_instruction⟩ := h2
  refine MHas.by F scReader_takes_step (fun vs H Q E h => ?_) (fun f cdv A out s H vs Q E hg hr h => ?_)
  · obtain ⟨_, _, _, _, _, _, _, _, _, _, rfl, _⟩ := h
    rfl
  obtain ⟨H0, x, l, p, n, b, B, R, z, us, rfl, rd, bl, hl, ul, usm, nl, p1, n1, qn, qy⟩ := h
  refine ⟨_, (pss_cons (ps_setLc (i := 2) (own := [("word", 4)]) (g := gName 4) (by rfl) scReader_takes_step.nd rfl rfl (sw_true rfl rfl rfl (by decide +kernel)) (pi_list (pe_slice sl_list (pv 1) (po_some pe_int) po_none)) (blkOk_by (own := [("word", 4)]) (N := ["self", "words", "numbers", "instruction", "word"]) (sc := defScope sReader_takes_step) (by decide +kernel)) (fun _ _ _ _ _ => (pg_name (i := 4) scReader_takes_step.nd rfl (.inl rfl))) (fun _ _ _ _ _ => pts_nil) (fun _ _ _ _ _ => (pe_cal cNumber_of hg hr (by rfl) (pa_cons (pv 4) pa_nil))))
  (pss_cons (ps_set (i := 3) scReader_takes_step.nd rfl (.inl rfl) (pe_tup (pa_cons (pe_ix ix_list (pv 1) pe_int (fun _ _ => rfl)) (StX.pa_star (pv 2) pa_nil))))
  (pss_cons (ps_if (pt_not (pt_val (pe_cal cIs_instruction hg hr (by rfl) (pa_cons (pe_fld (pv 0) rfl) (pa_cons (pe_fld (pv 0) rfl) (pa_cons (pv 3) (pa_cons pe_int pa_nil)))))))
    (pss_one (ps_ret pe_bl))
    pss_nil)
  (pss_cons (ps_expr (pe_bm PySem.F.plainAttrs_list PySem.F.slot_list_append PySem.F.type_list_append mt_append (pe_ix ix_list (pe_fld (pv 0) rfl) (pe_un un_neg pe_int) (fun _ _ => rfl)) (pa_cons (pv 3) pa_nil)))
  (pss_one (ps_ret pe_bl)))))), ?_⟩
  have hl : H l = some (.lst (V.str z :: us.map V.str)) := hl
  refine ⟨_, rfl, 1, rfl, l, _, rfl, SqL.of hl, fun tl ntl => ?_⟩
  rw [cut_tail]
  have s1 := same_new (H := H) (o := .lst (us.map V.str)) ntl
  have htl := upd_same (H := H) (a := tl) (o := .lst (us.map V.str))
  generalize upd H tl (.lst (us.map V.str)) = H1 at s1 htl ⊢
  refine ⟨tl, rfl, ⟨_, SqL.of htl⟩, fun D nD => ?_⟩
  refine lc_list (xs := us.map V.str) (fun i H' => H' D = some (.lst (((us.take i).map (nmK 80)).map onV)) ∧ Same H1 H') ⟨upd_same, same_new nD⟩ (fun i H' _ ⟨_, s⟩ => SqL.of (s _ _ htl)) ?_ ?_
  · rintro i y H2 hy ⟨e1, s2⟩
    rw [List.getElem?_map] at hy
    obtain ⟨a, ea, rfl⟩ := Option.map_eq_some_iff.mp hy
    refine ⟨rfl, _, rfl, a, rfl, usm a (List.mem_of_getElem? ea), fun H3 s3 => ?_⟩
    refine ⟨_, s3 _ _ e1, by rw [List.length_map, List.length_map, List.length_take, sizeLine_eq]; omega, ?_, same_upd (s2.trans s3) nD⟩
    rw [upd_same, List.take_add_one, ea, List.map_append, List.map_append]
    rfl
  rintro H2 ⟨e1, s2⟩
  rw [List.length_map, List.take_length] at e1
  have s02 := s1.trans s2
  generalize eos : us.map (nmK 80) = os at e1 qn qy ⊢
  have osl : os.length = us.length := by rw [← eos, List.length_map]
  refine ⟨_, rfl, l, _, 0, .str z, rfl, rfl, SqL.of (s02 _ _ hl), at0, ?_⟩
  refine ⟨_, rfl, D, _, rfl, .inr (SqL.of e1), ?_⟩
  show (V.str z :: (os.map onV ++ [])).length ≤ sizeLine ∧ _
  rw [List.append_nil]
  refine ⟨by rw [List.length_cons, List.length_map, sizeLine_eq]; omega, fun t nt => ?_⟩
  have s3 := same_new (H := H2) (o := .tup (V.str z :: os.map onV)) nt
  have ht := upd_same (H := H2) (a := t) (o := .tup (V.str z :: os.map onV))
  generalize upd H2 t (.tup (V.str z :: os.map onV)) = H3 at s3 ht ⊢
  have s03 := s02.trans s3
  have rd3 := rd.same s03
  obtain ⟨s0, nx, dx, lb, lr, bs, b0, r0, nbr, hx, hb, hr', nd, bd⟩ := rd.same s03
  have dd : Dd K H3 (.ref t) (.tuple (.str z :: os.map oD)) := .tup (SqT.of ht) (.cons (.str _) (onV_dd os))
  refine ⟨_, rfl, x, C, dx, _, _, rfl, hx, T.cl, T.nP, drf_p, _, rfl, x, C, dx, _, _, rfl, hx, T.cl, T.nN, drf_n, _, rfl, p, n, .ref t, _, rfl, dd, ?_, fun H4 s4 => ?_⟩
  · show max ((PyData.str z :: os.map oD).length) (lxs (PyData.str z :: os.map oD)) ≤ 10000000
    rw [lxs, oD_lxs, List.length_cons, List.length_map]
    show max (os.length + 1) (max 0 0) ≤ 10000000
    omega
  show ∃ b, V.bl (stpOk p n z os) = V.bl b ∧ _
  cases hst : stpOk p n z os with
  | false =>
    refine ⟨_, rfl, iteT ?_⟩
    exact qn hst H4 (rd3.same s4)
  | true =>
  obtain ⟨as, rfl, go⟩ := stp_good nl hst
  have qy := qy hst
  rw [fm_some] at qy
  rw [onV_some] at ht
  refine ⟨_, rfl, iteF ?_⟩
  have hx4 := s4 _ _ hx
  have hb4 := s4 _ _ hb
  have hr4 := s4 _ _ hr'
  have bd4 := bd.same s4
  have ht4 := s4 _ _ ht
  have s04 := s0.trans s4
  have er : (b :: B).reverse = B.reverse ++ [b] := List.reverse_cons
  rw [show ((b :: B, R) : RdS).1 = b :: B from rfl, er] at bd4
  obtain ⟨bs', a, rfl, bd', a0, nab, nar, us', ha, tr⟩ := paired_last bd4
  have ul := tr.length
  refine ⟨_, rfl, x, C, dx, _, _, rfl, hx4, T.cl, T.nB, drf_b, ?_⟩
  rw [List.map_append] at hb4
  refine ⟨_, rfl, lb, _, -1, .ref a, rfl, rfl, SqL.of hb4, atI_last _ _, .inl ⟨rfl, _, SqL.of ha⟩, _, rfl, a, us', _, rfl, rfl, ha, by rw [ul, sizeLine_eq]; omega, ?_⟩
  have nas : a ∉ bs' := fun m => by
    obtain ⟨_, _, h3⟩ := List.nodup_append.mp nd
    exact h3 a m a List.mem_cons_self rfl
  have nax : a ≠ x := fun e => by
    rw [e, hx4] at ha
    cases ha
  have kt : Kt H4 (upd H4 a (.lst (us' ++ [V.ref t]))) := Kt.but But.upd ha
  refine qy _ ⟨same_upd s04 a0, nx, dx, lb, lr, bs' ++ [a], b0, r0, nbr, (upd_ne nax.symm).trans hx4, (upd_ne nab.symm).trans (by rw [hb4, List.map_append]), (upd_ne nar.symm).trans hr4, nd, ?_⟩
  show BdsAt K H0 _ lb lr (bs' ++ [a]) ((b ++ [.op z as]) :: B).reverse
  rw [List.reverse_cons]
  refine paired_snoc (BdsAt.upd bd' ha nas) ⟨a0, nab, nar, us' ++ [V.ref t], upd_same, ?_⟩
  refine (TrsAt.kt kt _ _ tr).append (TrsAt.one ?_)
  rw [TrAt]
  exact ⟨t, rfl, kt.sq (SqT.of ht4)⟩
end
end K58
set_option Elab.async false
set_option linter.all false
set_option maxRecDepth 100000
set_option pp.maxSteps 500
set_option pp.deepTerms.threshold 8
set_option pp.deepTerms false
namespace K58
open PySem PySem.Spec PyProof.Rows L2 Lj
section
variable {P : Program} {w : World} {K : PySem.W.Frag} {mg : Str → Option Value} {base : Heap} {C : Addr}
open TL
/-- a loop is opened -/
def spTlA (K : PySem.W.Frag) (C : Addr) : Sp := fun vs H Q _ => ∃ (H0 : Hp) (x l : Addr) (p n : Int) (b : List Tr) (B : List (List Tr)) (R : List Int) (us : List Str), vs = [.ref x, .ref l] ∧ RdAt K C H0 H x p n (b :: B, R) ∧ R.length ≤ 4 ∧ B.length ≤ 10 ∧ H l = some (.lst ((("loop" : Str) :: us).map V.str)) ∧ us.length ≤ 9000000 ∧ (∀ u ∈ us, u.length ≤ 10000000) ∧
  (opnTk R.length us = none → ∀ H', RdAt K C H0 H' x p n (b :: B, R) → Q (.bl false) H') ∧
  (∀ k, opnTk R.length us = some (.opn k) → ∀ H', RdAt K C H0 H' x p n (rdS (b :: B, R) (0, .opn k)) → Q (.bl true) H')
theorem opn_no3 {d : Nat} {us : List Str} (h : us.length ≠ 2) : opnTk d us = none := by
  unfold opnTk
  split
  · exact absurd rfl h
  · rfl
theorem opn_noc {d : Nat} {a b : Str} (h : ¬ (b = "{" ∧ d ≠ 4)) : opnTk d [a, b] = none := by
  rw [opnTk, if_neg h]
theorem opn_noB {d : Nat} {a b : Str} (h : isBd 0 (10 ^ 18) (oD (nmK 80 a)) = false) : opnTk d [a, b] = none := by
  rw [opnTk]
  by_cases c : (b = "{" ∧ d ≠ 4)
  · rw [if_pos c]
    cases e : nmK 80 a with
    | none => rfl
    | some k =>
      rw [e] at h
      have h : (decide (0 ≤ k) && decide (k ≤ 10 ^ 18)) = false := h
      rw [decide_eq_true (nmK_nn e), Bool.true_and, decide_eq_false_iff_not] at h
      show (if k ≤ 10 ^ 18 then some (Tk.opn k) else none) = none
      rw [if_neg h]
  · rw [if_neg c]
theorem opn_yes {d : Nat} {a b : Str} (h : b = "{" ∧ d ≠ 4) (h2 : isBd 0 (10 ^ 18) (oD (nmK 80 a)) = true) : ∃ k, nmK 80 a = some k ∧ opnTk d [a, b] = some (.opn k) := by
  obtain ⟨k, e, k0, k1⟩ := isBd_iff h2
  have e := oD_int e
  refine ⟨k, e, ?_⟩
  rw [opnTk, if_pos h, e]
  show (if k ≤ 10 ^ 18 then some (Tk.opn k) else none) = _
  rw [if_pos k1]
set_option maxHeartbeats 4000000 in
theorem ok_tloopA (M : Bl mg) (F : MAt K C "takes_loop" "Reader.takes_loop" sReader_takes_loop ["self", "words"]) (T : DTx K mg C) {t1 t2 : Tok} (g_MAX_DEPTH : mg "MAX_DEPTH" = some (.int 4 t1)) (g_MAX_ROUNDS : mg "MAX_ROUNDS" = some (.int (10 ^ 18) t2)) {k : Nat} (h1 : Has P w K mg base k "number_of" ["word"] (spNoA 80)) (h2 : Has P w K mg base k "is_between" ["value", "low", "high"] (spBtD K)) : MHas P w K mg base (k + 1) C "takes_loop" ["self", "words"] (spTlA K C) := by
  obtain ⟨_, _, cNumber_of⟩ := h1
  obtain ⟨_, _, cIs_between⟩ := h2
  refine MHas.by F scReader_takes_loop (fun vs H Q E h => ?_) (fun f cdv A out s H vs Q E hg hr h => ?_)
  · obtain ⟨_, _, _, _, _, _, _, _, _, rfl, _⟩ := h
    rfl
  obtain ⟨H0, x, l, p, n, b, B, R, us, rfl, rd, rl, bl, hl, ul, usm, qn, qy⟩ := h
  have rd0 := rd
  have hl : H l = some (.lst (V.str "loop" :: us.map V.str)) := hl
  obtain ⟨s0, nx, dx, lb, lr, bs, b0, r0, nbr, hx, hb, hr', nd, bd⟩ := rd
  refine ⟨_, (pss_cons (ps_if (PW.pt (pw_or (pt_cmpR op_ne (pe_callB call_len_seq (by rfl) M.len_ (by decide +kernel) (pa_cons (pv 1) pa_nil)) pe_int (nomark _)) (pw_or (pt_cmpR op_ne (pe_ix ix_list (pv 1) pe_int (fun _ _ => rfl)) pe_str (nomark _)) (pw_or1 (pt_cmpR op_eq (pe_callB call_len_seq (by rfl) M.len_ (by decide +kernel) (pa_cons (pe_fld (pv 0) rfl) pa_nil)) (pe_glob (v := .int 4) (by rfl) g_MAX_DEPTH ⟨_, rfl⟩) (nomark _))))))
    (pss_one (ps_ret pe_bl))
    pss_nil)
  (pss_cons (ps_set (i := 2) scReader_takes_loop.nd rfl (.inl rfl) (pe_cal cNumber_of hg hr (by rfl) (pa_cons (pe_ix ix_list (pv 1) pe_int (fun _ _ => rfl)) pa_nil)))
  (pss_cons (ps_if (pt_not (pt_val (pe_cal cIs_between hg hr (by rfl) (pa_cons (pv 2) (pa_cons pe_int (pa_cons (pe_glob (v := .int (10 ^ 18)) (by rfl) g_MAX_ROUNDS ⟨_, rfl⟩) pa_nil))))))
    (pss_one (ps_ret pe_bl))
    pss_nil)
  (pss_cons (ps_expr (pe_bm PySem.F.plainAttrs_list PySem.F.slot_list_append PySem.F.type_list_append mt_append (pe_fld (pv 0) rfl) (pa_cons (pv 2) pa_nil)))
  (pss_cons (ps_expr (pe_bm PySem.F.plainAttrs_list PySem.F.slot_list_append PySem.F.type_list_append mt_append (pe_fld (pv 0) rfl) (pa_cons (pe_lst pa_nil) pa_nil)))
  (pss_one (ps_ret pe_bl))))))), ?_⟩
  refine ⟨_, rfl, l, _, rfl, .inl (SqL.of hl), rfl, _, rfl, ?_⟩
  by_cases c1 : ¬ us.length = 2
  · refine iteNN (fun e => c1 ?_) ?_
    · have e := V.int.inj e
      rw [List.length_cons, List.length_map] at e
      omega
    · exact qn (opn_no3 c1) H rd0
  have c1 := Decidable.not_not.mp c1
  obtain ⟨a1, a2, rfl⟩ : ∃ a b, us = [a, b] := by
    match us, c1 with
    | [a, b], _ => exact ⟨a, b, rfl⟩
  have hl : H l = some (.lst [V.str "loop", V.str a1, V.str a2]) := hl
  refine ifNN rfl ?_
  refine ⟨_, rfl, l, _, 2, .str a2, rfl, rfl, SqL.of hl, rfl, rfl, _, rfl, ?_⟩
  by_cases c2 : ¬ a2 = "{"
  · refine iteNN (fun e => c2 (V.str.inj e)) ?_
    exact qn (opn_noc fun h => c2 h.1) H rd0
  have c2 := Decidable.not_not.mp c2
  refine ifNN (congrArg V.str c2) ?_
  refine ⟨_, rfl, x, C, dx, _, _, rfl, hx, T.cl, T.nR, drf_r, lr, _, rfl, .inl (SqL.of hr'), rfl, _, rfl, ?_⟩
  by_cases c3 : R.length = 4
  · refine iteP ?_ ?_
    · rw [List.length_map, List.length_reverse]
      show V.int (R.length : Int) = _
      rw [c3]
      rfl
    · exact qn (opn_noc fun h => h.2 c3) H rd0
  refine iteN (fun e => c3 ?_) ?_
  · have e := V.int.inj e
    rw [List.length_map, List.length_reverse] at e
    have e : (R.length : Int) = 4 := e
    omega
  refine ⟨_, rfl, l, _, 1, .str a1, rfl, rfl, SqL.of hl, rfl, a1, rfl, usm a1 List.mem_cons_self, fun H1 s1 => ?_⟩
  have dda : Dd K H1 (onV (nmK 80 a1)) (oD (nmK 80 a1)) := by
    cases nmK 80 a1 with
    | none => exact .non
    | some i => exact .int i
  refine ⟨_, rfl, onV (nmK 80 a1), oD (nmK 80 a1), 0, 10 ^ 18, rfl, dda, ?_⟩
  cases cb : isBd 0 (10 ^ 18) (oD (nmK 80 a1)) with
  | false =>
    refine ⟨_, rfl, iteT ?_⟩
    exact qn (opn_noB cb) H1 (rd0.same s1)
  | true =>
  obtain ⟨k, ek, eo⟩ := opn_yes (d := R.length) ⟨c2, c3⟩ cb
  have q := qy k eo
  rw [ek]
  have rl : R.length < 4 := by omega
  refine ⟨_, rfl, iteF ?_⟩
  have hx1 := s1 _ _ hx
  have hb1 := s1 _ _ hb
  have hr1 := s1 _ _ hr'
  have bd1 := bd.same s1
  have s01 := s0.trans s1
  have bsl : bs.length = B.length + 1 := by
    have := Paired.length bd
    rwa [List.length_reverse] at this
  refine ⟨_, rfl, x, C, dx, _, _, rfl, hx1, T.cl, T.nR, drf_r, .inl ⟨rfl, _, SqL.of hr1⟩, _, rfl, lr, _, _, rfl, rfl, hr1, by rw [List.length_map, List.length_reverse, sizeLine_eq]; show R.length + 1 ≤ _; omega, ?_⟩
  generalize eH : upd H1 lr _ = H2
  have nxr : x ≠ lr := fun e => by
    rw [← e, hx1] at hr1
    cases hr1
  have nrb : lr ∉ bs := fun m => (bd1.mem_ne m).2.2 rfl
  have hr2 : H2 lr = some (.lst ((k :: R).reverse.map V.int)) := by
    rw [← eH, upd_same, List.reverse_cons, List.map_append]
    rfl
  have hx2 : H2 x = some (.ins C dx (drf p n lb lr)) := by
    rw [← eH]
    exact (upd_ne nxr).trans hx1
  have hb2 : H2 lb = some (.lst (bs.map V.ref)) := by
    rw [← eH]
    exact (upd_ne nbr).trans hb1
  have s02 : Same H0 H2 := by
    rw [← eH]
    exact same_upd s01 r0
  have bd2 : BdsAt K H0 H2 lb lr bs (b :: B).reverse := by
    rw [← eH]
    exact BdsAt.upd bd1 hr1 nrb
  clear eH
  refine ⟨_, rfl, x, C, dx, _, _, rfl, hx2, T.cl, T.nB, drf_b, .inl ⟨rfl, _, SqL.of hb2⟩, Nat.zero_le _, fun D nD => ?_⟩
  have s3 := same_new (H := H2) (o := .lst []) nD
  have hD := upd_same (H := H2) (a := D) (o := .lst [])
  generalize upd H2 D (.lst []) = H3 at s3 hD ⊢
  have hb3 := s3 _ _ hb2
  have D0 : H0 D = none := s02.free nD
  have nDb : D ≠ lb := (ne_of_none hb2 nD).symm
  have nDr : D ≠ lr := (ne_of_none hr2 nD).symm
  have nDx : D ≠ x := (ne_of_none hx2 nD).symm
  have nbx : lb ≠ x := fun e => by
    rw [e, hx2] at hb2
    cases hb2
  have nbb : lb ∉ bs := fun m => (bd2.mem_ne m).2.1 rfl
  have nDm : D ∉ bs := fun m => by
    have key : ∀ {bs : List Addr} {Z : List (List Tr)}, BdsAt K H0 H2 lb lr bs Z → D ∈ bs → False := fun {bs Z} h m => by
      induction h with
      | nil => cases m
      | cons h t ih =>
        rcases List.mem_cons.mp m with e | m
        · obtain ⟨_, _, _, us, hu, _⟩ := h
          rw [← e, nD] at hu
          cases hu
        · exact ih m
    exact key bd2 m
  refine ⟨lb, _, _, rfl, rfl, hb3, by rw [List.length_map, sizeLine_eq]; omega, ?_⟩
  refine q _ ⟨same_upd (s02.trans s3) b0, nx, dx, lb, lr, bs ++ [D], b0, r0, nbr, (upd_ne nbx.symm).trans (s3 _ _ hx2), upd_same.trans (by rw [List.map_append]; rfl), (upd_ne nbr.symm).trans (s3 _ _ hr2), ?_, ?_⟩
  · exact List.nodup_append.mpr ⟨nd, List.nodup_cons.mpr ⟨List.not_mem_nil, List.nodup_nil⟩, fun a ma y my e => by
      rw [List.mem_singleton.mp my] at e
      exact nDm (by rw [← e]; exact ma)⟩
  · show BdsAt K H0 _ lb lr (bs ++ [D]) (([] : List Tr) :: b :: B).reverse
    rw [List.reverse_cons]
    exact paired_snoc (BdsAt.upd (bd2.same s3) hb3 nbb) ⟨D0, nDb, nDr, [], (upd_ne nDb).trans hD, TrsAt.nil⟩
/-- a loop is closed -/
def spTcl (K : PySem.W.Frag) (C : Addr) : Sp := fun vs H Q _ => ∃ (H0 : Hp) (x : Addr) (p n k : Int) (b c : List Tr) (B : List (List Tr)) (R : List Int), vs = [.ref x] ∧ RdAt K C H0 H x p n (b :: c :: B, k :: R) ∧ c.length ≤ 1000 ∧
  ∀ H', RdAt K C H0 H' x p n (rdS (b :: c :: B, k :: R) (0, .cls)) → Q .non H'
set_option maxHeartbeats 4000000 in
theorem ok_tclose (M : Bl mg) (F : MAt K C "close_loop" "Reader.close_loop" sReader_close_loop ["self"]) (T : DTx K mg C) {k : Nat} : MHas P w K mg base (k + 1) C "close_loop" ["self"] (spTcl K C) := by
  refine MHas.by F scReader_close_loop (fun vs H Q E h => ?_) (fun f cdv A out s H vs Q E hg hr h => ?_)
  · obtain ⟨_, _, _, _, _, _, _, _, _, rfl, _⟩ := h
    rfl
  obtain ⟨H0, x, p, n, k, b, c, B, R, rfl, rd, cl, q⟩ := h
  obtain ⟨s0, nx, dx, lb, lr, bs, b0, r0, nbr, hx, hb, hr', nd, bd⟩ := rd
  have er : (b :: c :: B).reverse = (B.reverse ++ [c]) ++ [b] := by rw [List.reverse_cons, List.reverse_cons]
  have bd : BdsAt K H0 H lb lr bs (b :: c :: B).reverse := bd
  rw [er] at bd
  obtain ⟨bs1, a, rfl, bd1, a0, nab, nar, us, ha, tr⟩ := paired_last bd
  obtain ⟨bs2, a2, rfl, bd2, a20, na2b, na2r, us2, ha2, tr2⟩ := paired_last bd1
  refine ⟨_, (pss_cons (ps_set (i := 1) scReader_close_loop.nd rfl (.inl rfl) (pe_callTy call_tuple_of (by rfl) M.tuple_ (by decide +kernel) (pa_cons (pe_bm0 PySem.F.plainAttrs_list PySem.F.slot_list_pop PySem.F.type_list_pop mt_pop (pe_fld (pv 0) rfl)) pa_nil)))
  (pss_one (ps_expr (pe_bm PySem.F.plainAttrs_list PySem.F.slot_list_append PySem.F.type_list_append mt_append (pe_ix ix_list (pe_fld (pv 0) rfl) (pe_un un_neg pe_int) (fun _ _ => rfl)) (pa_cons (pe_tup (pa_cons pe_str (pa_cons (pe_bm0 PySem.F.plainAttrs_list PySem.F.slot_list_pop PySem.F.type_list_pop mt_pop (pe_fld (pv 0) rfl)) (pa_cons (pv 1) pa_nil)))) pa_nil))))), ?_⟩
  refine ⟨_, rfl, x, C, dx, _, _, rfl, hx, T.cl, T.nB, drf_b, ?_⟩
  rw [List.map_append] at hb
  have hb : H lb = some (.lst ((bs2 ++ [a2]).map V.ref ++ [V.ref a])) := hb
  refine ⟨.inl ⟨rfl, _, SqL.of hb⟩, lb, (bs2 ++ [a2]).map V.ref ++ [V.ref a], .ref a, rfl, rfl, hb, by rw [List.length_append, List.length_singleton, Nat.add_sub_cancel, List.getElem?_append_right (Nat.le_refl _), Nat.sub_self]; rfl, ?_⟩
  rw [List.dropLast_concat]
  have nd1 : (bs2 ++ [a2]).Nodup := (List.nodup_append.mp nd).1
  have nax : a ≠ x := fun e => by
    rw [e, hx] at ha
    cases ha
  have na2x : a2 ≠ x := fun e => by
    rw [e, hx] at ha2
    cases ha2
  have nbx : lb ≠ x := fun e => by
    rw [e, hx] at hb
    cases hb
  have nrx : lr ≠ x := fun e => by
    rw [e, hx] at hr'
    cases hr'
  have naa : a ≠ a2 := fun e => (List.nodup_append.mp nd).2.2 a2 (List.mem_append_right _ List.mem_cons_self) a List.mem_cons_self e.symm
  have na2m : a2 ∉ bs2 := fun m => (List.nodup_append.mp nd1).2.2 a2 m a2 List.mem_cons_self rfl
  have bd2 : BdsAt K H0 H lb lr bs2 B.reverse := bd2
  have nbm : lb ∉ bs2 := fun m => (bd2.mem_ne m).2.1 rfl
  have nrm : lr ∉ bs2 := fun m => (bd2.mem_ne m).2.2 rfl
  have k1 : Kt H (upd H lb (.lst ((bs2 ++ [a2]).map V.ref))) := Kt.but But.upd hb
  generalize eH1 : upd H lb (.lst ((bs2 ++ [a2]).map V.ref)) = H1 at k1 ⊢
  have s1 : Same H0 H1 := by
    rw [← eH1]
    exact same_upd s0 b0
  have hb1 : H1 lb = some (.lst ((bs2 ++ [a2]).map V.ref)) := by
    rw [← eH1]
    exact upd_same
  have hx1 : H1 x = some (.ins C dx (drf p n lb lr)) := by
    rw [← eH1]
    exact (upd_ne nbx.symm).trans hx
  have hr1 : H1 lr = some (.lst ((k :: R).reverse.map V.int)) := by
    rw [← eH1]
    exact (upd_ne nbr.symm).trans hr'
  have ha1 : H1 a = some (.lst us) := by
    rw [← eH1]
    exact (upd_ne nab).trans ha
  have ha21 : H1 a2 = some (.lst us2) := by
    rw [← eH1]
    exact (upd_ne na2b).trans ha2
  have tr1 := TrsAt.kt k1 _ _ tr
  have tr21 := TrsAt.kt k1 _ _ tr2
  have bd21 : BdsAt K H0 H1 lb lr bs2 B.reverse := by
    rw [← eH1]
    exact BdsAt.upd bd2 hb nbm
  clear eH1
  refine ⟨a, us, rfl, .inl ⟨SqL.of ha1, fun t nt => ?_⟩⟩
  have s2 := same_new (H := H1) (o := .tup us) nt
  have ht := upd_same (H := H1) (a := t) (o := .tup us)
  generalize upd H1 t (.tup us) = H2 at s2 ht ⊢
  refine ⟨_, rfl, x, C, dx, _, _, rfl, s2 _ _ hx1, T.cl, T.nB, drf_b, ?_⟩
  have hb2 := s2 _ _ hb1
  rw [List.map_append] at hb2
  have hb2 : H2 lb = some (.lst (bs2.map V.ref ++ [V.ref a2])) := hb2
  refine ⟨_, rfl, lb, _, -1, .ref a2, rfl, rfl, SqL.of hb2, atI_last _ _, .inl ⟨rfl, _, SqL.of (s2 _ _ ha21)⟩, ?_⟩
  have hr2 := s2 _ _ hr1
  have er2 : ((k :: R).reverse.map V.int) = R.reverse.map V.int ++ [V.int k] := by
    rw [List.reverse_cons, List.map_append]
    rfl
  rw [er2] at hr2
  refine ⟨_, rfl, x, C, dx, _, _, rfl, s2 _ _ hx1, T.cl, T.nR, drf_r, .inl ⟨rfl, _, SqL.of hr2⟩, lr, R.reverse.map V.int ++ [V.int k], .int k, rfl, rfl, hr2, by rw [List.length_append, List.length_singleton, Nat.add_sub_cancel, List.getElem?_append_right (Nat.le_refl _), Nat.sub_self]; rfl, ?_⟩
  rw [List.dropLast_concat]
  have k3 : Kt H2 (upd H2 lr (.lst (R.reverse.map V.int))) := Kt.but But.upd hr2
  have s02 : Same H0 H2 := s1.trans s2
  have nrb2 : lb ≠ lr := nbr
  have na2x2 := na2x
  generalize eH3 : upd H2 lr (.lst (R.reverse.map V.int)) = H3 at k3 ⊢
  have s03 : Same H0 H3 := by
    rw [← eH3]
    exact same_upd s02 r0
  have hr3 : H3 lr = some (.lst (R.reverse.map V.int)) := by
    rw [← eH3]
    exact upd_same
  have hx3 : H3 x = some (.ins C dx (drf p n lb lr)) := by
    rw [← eH3]
    exact (upd_ne nrx.symm).trans (s2 _ _ hx1)
  have hb3 : H3 lb = some (.lst (bs2.map V.ref ++ [V.ref a2])) := by
    rw [← eH3]
    exact (upd_ne nbr).trans hb2
  have ha23 : H3 a2 = some (.lst us2) := by
    rw [← eH3]
    exact (upd_ne na2r).trans (s2 _ _ ha21)
  have tr3 := TrsAt.kt k3 _ _ (TrsAt.kt (Kt.same s2) _ _ tr1)
  have tr23 := TrsAt.kt k3 _ _ (TrsAt.kt (Kt.same s2) _ _ tr21)
  have ht3 : SqT K H3 t us := k3.sq (SqT.of ht)
  have bd23 : BdsAt K H0 H3 lb lr bs2 B.reverse := by
    rw [← eH3]
    exact BdsAt.upd (bd21.same s2) hr2 nrm
  clear eH3
  refine ⟨_, rfl, ?_, fun t2 nt2 => ?_⟩
  · rw [sizeLine_eq]
    exact Nat.le_of_ble_eq_true rfl
  have s4 := same_new (H := H3) (o := .tup [V.str "loop", V.int k, V.ref t]) nt2
  have ht2 := upd_same (H := H3) (a := t2) (o := .tup [V.str "loop", V.int k, V.ref t])
  generalize upd H3 t2 (.tup [V.str "loop", V.int k, V.ref t]) = H4 at s4 ht2 ⊢
  have ul : us2.length = c.length := tr2.length
  have ha24 := s4 _ _ ha23
  refine ⟨a2, us2, _, rfl, rfl, ha24, by rw [ul, sizeLine_eq]; omega, ?_⟩
  have kt : Kt H4 (upd H4 a2 (.lst (us2 ++ [V.ref t2]))) := Kt.but But.upd ha24
  have nd2 : (bs2 ++ [a2]).Nodup := nd1
  refine q _ ⟨same_upd (s03.trans s4) a20, nx, dx, lb, lr, bs2 ++ [a2], b0, r0, nbr, (upd_ne na2x.symm).trans (s4 _ _ hx3), (upd_ne na2b.symm).trans (by rw [s4 _ _ hb3, List.map_append]; rfl), (upd_ne na2r.symm).trans (s4 _ _ hr3), nd2, ?_⟩
  show BdsAt K H0 _ lb lr (bs2 ++ [a2]) ((c ++ [.loop k b]) :: B).reverse
  rw [List.reverse_cons]
  refine paired_snoc (BdsAt.upd (bd23.same s4) ha24 na2m) ⟨a20, na2b, na2r, us2 ++ [V.ref t2], upd_same, ?_⟩
  refine (TrsAt.kt kt _ _ (TrsAt.kt (Kt.same s4) _ _ tr23)).append (TrsAt.one ?_)
  rw [TrAt]
  exact ⟨t2, t, us, rfl, kt.sq (SqT.of ht2), kt.sq ((Kt.same s4).sq ht3), TrsAt.kt kt _ _ (TrsAt.kt (Kt.same s4) _ _ tr3)⟩
end
end K58
set_option Elab.async false
set_option linter.all false
set_option maxRecDepth 100000
set_option pp.maxSteps 500
set_option pp.deepTerms.threshold 8
set_option pp.deepTerms false
namespace K58
open PySem PySem.Spec PyProof.Rows L2 Lj
section
variable {P : Program} {w : World} {K : PySem.W.Frag} {mg : Str → Option Value} {base : Heap} {C : Addr}
open TL
theorem ints_dp57 {H : Hp} : ∀ as : List Int, DpAll K H (as.map V.int) (as.map PyData.int)
  | [] => .nil
  | a :: as => .cons (.int a) (ints_dp57 as)
theorem shaped_lst57 (ns : List Int) : SeqAt.shaped (.list (ns.map PyData.int)) = true := by
  unfold SeqAt.shaped
  rw [PyData.canLay0, lay_ints, PyData.depth, depth_ints]
  rfl
theorem mrg_ok {d : Nat} (h : d < 9) : MulOk "  " (d : Int) := by
  have : d = 0 ∨ d = 1 ∨ d = 2 ∨ d = 3 ∨ d = 4 ∨ d = 5 ∨ d = 6 ∨ d = 7 ∨ d = 8 := by omega
  rcases this with e | e | e | e | e | e | e | e | e
  · subst e
    exact ⟨by decide, fun h => absurd (by decide) h, fun h => absurd (by decide) h⟩
  all_goals
    subst e
    exact ⟨by decide, fun _ _ => by decide, fun _ _ => by decide⟩
theorem atI_zero57 (v : V) (l : List V) : atI (v :: l) 0 = some v := atI_nat (j := 0) rfl
theorem andIf {c : Bool} {T : TT} {σ : L2.St} {H : Hp} {A : Bool → Hp → Prop} (k : A false H) (h : c = true → A false H → T σ H A) : if c = true then T σ H A else A false H := by
  cases c
  · exact k
  · exact h rfl k
/-- any line of a text is taken -/
def spTkA (K : PySem.W.Frag) (C : Addr) : Sp := fun vs H Q _ => ∃ (H0 : Hp) (x : Addr) (p n : Int) (b : List Tr) (B : List (List Tr)) (R : List Int) (y : Str), vs = [.ref x, .str y] ∧ RdAt K C H0 H x p n (b :: B, R) ∧ GoodS p n (b :: B) R ∧ (∀ c ∈ b :: B, c.length ≤ 1000) ∧ y.length ≤ 8000000 ∧ p ≤ 10007 ∧ n ≤ 8 ∧
  (lnTk p n R.length y = none → ∀ H', RdAt K C H0 H' x p n (b :: B, R) → Q (.bl false) H') ∧
  (∀ t, lnTk p n R.length y = some t → ∀ H', RdAt K C H0 H' x p n (rdS (b :: B, R) (0, t)) → Q (.bl true) H')
theorem cutS_short (x : Str) (a b : Option Int) : (cutS x a b).length ≤ x.length := by
  have h : tl (cutS x a b) = ((tl x).drop (HT.sIx x.length 0 a)).take (HT.sIx x.length x.length b - HT.sIx x.length 0 a) := rfl
  rw [len_tl (cutS x a b), h, len_tl x, List.length_take, List.length_drop]
  omega
set_option maxHeartbeats 4000000 in
theorem ok_takesA (M : Bl mg) (F : MAt K C "takes" "Reader.takes" sReader_takes ["self", "line"]) (T : DTx K mg C) (g_MARGIN : ∃ t, mg "MARGIN" = some (.str "  " t)) {k : Nat} (h1 : MHas P w K mg base k C "close_loop" ["self"] (spTcl K C)) (h2 : MHas P w K mg base k C "takes_loop" ["self", "words"] (spTlA K C)) (h3 : MHas P w K mg base k C "takes_step" ["self", "words"] (spTsA K C)) : MHas P w K mg base (k + 1) C "takes" ["self", "line"] (spTkA K C) := by
  obtain ⟨_, _, cClose_loop⟩ := h1
  obtain ⟨_, _, cTakes_loop⟩ := h2
  obtain ⟨_, _, cTakes_step⟩ := h3
  obtain ⟨_, g_MARGIN⟩ := g_MARGIN
  refine MHas.by F scReader_takes (fun vs H Q E h => ?_) (fun f cdv A out s H vs Q E hg hr h => ?_)
  · obtain ⟨_, _, _, _, _, _, _, _, rfl, _⟩ := h
    rfl
  obtain ⟨H0, x, p, n, b, B, R, y, rfl, rd, gs, bm, yl, p1, n1, qn, qy⟩ := h
  obtain ⟨_, r4, bl⟩ := gs.form
  have bl : B.length = R.length := by
    rw [List.length_cons] at bl
    omega
  have rd0 := rd
  obtain ⟨s0, nx, dx, lb, lr, bs, b0, r0, nbr, hx, hb, hr', nd, bd⟩ := rd0
  refine ⟨_, (pss_cons (ps_if (PW.pt (pw_and (pt_cmpR (op_neD hr.units) (pe_fld (pv 0) rfl) (pe_lst pa_nil) (nomark _)) (pw_and1 (pt_cmpR op_eq (pv 1) (pe_op op_add_str (pe_op op_mulS (pe_glob (v := .str "  ") (by rfl) g_MARGIN ⟨_, rfl⟩) (pe_op op_sub (pe_callB call_len_seq (by rfl) M.len_ (by decide +kernel) (pa_cons (pe_fld (pv 0) rfl) pa_nil)) pe_int)) pe_str) (nomark _)))))
    (pss_cons (ps_expr (pe_mcal0 cClose_loop hg hr (pv 0)))
  (pss_one (ps_ret pe_bl)))
    pss_nil)
  (pss_cons (ps_set (i := 2) scReader_takes.nd rfl (.inl rfl) (pe_op op_mulS (pe_glob (v := .str "  ") (by rfl) g_MARGIN ⟨_, rfl⟩) (pe_callB call_len_seq (by rfl) M.len_ (by decide +kernel) (pa_cons (pe_fld (pv 0) rfl) pa_nil))))
  (pss_cons (ps_if (pt_not (pt_val (pe_m1 PySem.F.slot_str_startswith PySem.F.type_str_startswith mt_startswith (pv 1) (pv 2))))
    (pss_one (ps_ret pe_bl))
    pss_nil)
  (pss_cons (ps_set (i := 3) scReader_takes.nd rfl (.inl rfl) (pe_split (pe_slice sl_str (pv 1) (po_some (pe_callB call_len_str (by rfl) M.len_ (by decide +kernel) (pa_cons (pv 2) pa_nil))) po_none) pe_str))
  (pss_cons (ps_if (pt_cmpR op_eq (pe_ix ix_list (pv 3) pe_int (fun _ _ => rfl)) pe_str (nomark _))
    (pss_one (ps_ret (pe_mcal cTakes_loop hg hr (pv 0) (pa_cons (pv 3) pa_nil))))
    pss_nil)
  (pss_one (ps_ret (pe_mcal cTakes_step hg hr (pv 0) (pa_cons (pv 3) pa_nil))))))))), ?_⟩
  refine ⟨_, rfl, x, C, dx, _, _, rfl, hx, T.cl, T.nR, drf_r, Nat.zero_le _, fun e ne => ?_⟩
  have s1 := same_new (H := H) (o := .lst []) ne
  have he := upd_same (H := H) (a := e) (o := .lst [])
  generalize upd H e (.lst []) = H1 at s1 he ⊢
  refine ⟨.list (R.reverse.map PyData.int), .list [], .lst (SqL.of (s1 _ _ hr')) (ints_dp57 _), .lst (SqL.of he) .nil, shaped_lst57 _, rfl, ?_⟩
  rw [eqv_nil]
  have hx1 := s1 _ _ hx
  have hr1 := s1 _ _ hr'
  by_cases hc : R.length ≠ 0 ∧ y = mrg (R.length - 1) ++ "}"
  · have el0 : lnTk p n R.length y = some .cls := by
      unfold lnTk
      rw [if_pos hc]
    have q := qy _ el0
    obtain ⟨hc0, hc1⟩ := hc
    obtain ⟨k', R', rfl⟩ : ∃ k' R', R = k' :: R' := by
      cases R with
      | nil => exact absurd rfl hc0
      | cons k' R' => exact ⟨k', R', rfl⟩
    obtain ⟨c, B', rfl⟩ : ∃ c B', B = c :: B' := by
      cases B with
      | nil => cases bl
      | cons c B' => exact ⟨c, B', rfl⟩
    have eN : (!((k' :: R').reverse.map PyData.int).isEmpty) = true := by
      rw [List.reverse_cons, List.map_append]
      cases R'.reverse.map PyData.int <;> rfl
    rw [eN]
    refine ⟨_, rfl, iteT ?_⟩
    refine ⟨_, rfl, _, rfl, x, C, dx, _, _, rfl, hx1, T.cl, T.nR, drf_r, lr, _, rfl, .inl (SqL.of hr1), ?_⟩
    have el : ((((k' :: R').reverse.map V.int).length : Nat) : Int) - 1 = (R'.length : Int) := by
      rw [List.length_map, List.length_reverse, List.length_cons]
      omega
    rw [List.length_cons] at r4
    refine ⟨_, _, rfl, rfl, ?_⟩
    refine ⟨"  ", (R'.length : Int), rfl, congrArg V.int el, mrg_ok (by omega), ?_⟩
    refine ⟨mrg R'.length, "}", rfl, rfl, by rw [mrg_len (by omega), sizeLine_eq]; show _ + 1 ≤ _; omega, ?_⟩
    rw [show y = mrg R'.length ++ "}" from hc1]
    refine ⟨rfl, _, rfl, ?_⟩
    rw [decide_eq_true (rfl : V.str (mrg R'.length ++ "}") = V.str (mrg R'.length ++ "}"))]
    refine iteT ?_
    exact ⟨_, rfl, x, dx, _, rfl, hx1, rfl, H0, x, p, n, k', b, c, B', R', rfl, rd.same s1, bm c (List.mem_cons_of_mem _ List.mem_cons_self), fun H2 rd2 => q _ rd2⟩
  · refine ⟨_, rfl, ?_⟩
    refine andIf ?_ fun ec G => ?_
    · refine iteF ?_
      generalize ed : R.length = d at qn qy hc r4 bl
      have el : (((R.reverse.map V.int).length : Nat) : Int) = (d : Int) := by
        rw [List.length_map, List.length_reverse, ed]
      refine ⟨_, rfl, x, C, dx, _, _, rfl, hx1, T.cl, T.nR, drf_r, lr, _, rfl, .inl (SqL.of hr1), "  ", (d : Int), rfl, congrArg V.int el, mrg_ok (by omega), ?_⟩
      have ml := mrg_len (d := d) (by omega)
      refine ⟨_, rfl, ⟨_, rfl⟩, _, rfl, _, _, rfl, rfl, _, rfl, ?_⟩
      show (fun c H1 => if c = true then _ else _) (!Txt.startswith y (mrg d)) H1
      have eln : lnTk p n d y = if Txt.startswith y (mrg d) = true then wdTk p n d (Txt.split (cutS y (some ((2 * d : Nat) : Int)) none) " ") else none := by
        unfold lnTk
        rw [if_neg hc]
      cases st : Txt.startswith y (mrg d) with
      | false =>
        refine iteT ?_
        rw [eln, st] at qn
        exact qn rfl H1 (rd.same s1)
      | true =>
      rw [st, if_pos rfl] at eln
      refine iteF ?_
      refine ⟨_, rfl, _, rfl, mrg d, rfl, by rw [ml, sizeLine_eq]; omega, _, rfl, _, rfl, by rw [sizeLine_eq]; omega, ?_⟩
      rw [ml]
      have cl := cutS_short y (some ((2 * d : Nat) : Int)) none
      generalize cutS y (some ((2 * d : Nat) : Int)) none = z0 at eln cl ⊢
      refine ⟨⟨_, rfl⟩, _, _, rfl, rfl, rfl, by rw [sizeLine_eq]; omega, fun ws nw => ?_⟩
      have sw := split_few (x := z0) sp_tl sp_hk
      have sh := split_short (x := z0) sp_tl sp_hk
      obtain ⟨z, us, ez⟩ : ∃ z us, Txt.split z0 " " = z :: us := by
        cases h : Txt.split z0 " " with
        | nil => exact absurd h (split_some sp_tl sp_hk)
        | cons z us => exact ⟨z, us, rfl⟩
      rw [ez] at eln sw sh
      rw [ez]
      have s2 := same_new (H := H1) (o := .lst ((z :: us).map V.str)) nw
      have hw := upd_same (H := H1) (a := ws) (o := .lst ((z :: us).map V.str))
      generalize upd H1 ws (.lst ((z :: us).map V.str)) = H2 at s2 hw ⊢
      have rd2 := (rd.same s1).same s2
      have hx2 := s2 _ _ hx1
      rw [List.length_cons] at sw
      have usl : us.length ≤ 9000000 := by omega
      have usm : ∀ u ∈ us, u.length ≤ 10000000 := fun u mu => by
        have := sh u (List.mem_cons_of_mem _ mu)
        omega
      rw [eln] at qn qy
      refine ⟨_, rfl, ws, _, 0, .str z, rfl, rfl, SqL.of hw, atI_zero57 _ _, rfl, _, rfl, ?_⟩
      by_cases cz : z = "loop"
      · subst cz
        refine iteP rfl ?_
        have e1 : wdTk p n d (("loop" : Str) :: us) = opnTk d us := by
          rw [wdTk, if_pos rfl]
        rw [e1] at qn qy
        exact ⟨_, rfl, x, dx, _, rfl, hx2, rfl, _, rfl, H0, x, ws, p, n, b, B, R, us, rfl, rd2, by omega, by omega, hw, usl, usm, fun h H3 rd3 => qn (by rw [← ed]; exact h) H3 rd3, fun k h H3 rd3 => qy _ (by rw [← ed]; exact h) H3 rd3⟩
      · refine iteN (fun e => cz (V.str.inj e)) ?_
        have e1 : wdTk p n d (z :: us) = if stpOk p n z (us.map (nmK 80)) = true then some (.op z ((us.map (nmK 80)).filterMap id)) else none := by
          rw [wdTk, if_neg cz]
        rw [e1] at qn qy
        exact ⟨_, rfl, x, dx, _, rfl, hx2, rfl, _, rfl, H0, x, ws, p, n, b, B, R, z, us, rfl, rd2, bm b List.mem_cons_self, hw, usl, usm, cz, p1, n1, fun h H3 rd3 => qn (by rw [h]; rfl) H3 rd3, fun h H3 rd3 => qy _ (by rw [if_pos h]) H3 rd3⟩
    · obtain ⟨k', R', rfl⟩ : ∃ k' R', R = k' :: R' := by
        cases R with
        | nil => cases ec
        | cons k' R' => exact ⟨k', R', rfl⟩
      have el : ((((k' :: R').reverse.map V.int).length : Nat) : Int) - 1 = (R'.length : Int) := by
        rw [List.length_map, List.length_reverse, List.length_cons]
        omega
      rw [List.length_cons] at r4
      refine ⟨_, rfl, _, rfl, x, C, dx, _, _, rfl, hx1, T.cl, T.nR, drf_r, lr, _, rfl, .inl (SqL.of hr1), ?_⟩
      refine ⟨_, _, rfl, rfl, ?_⟩
      refine ⟨"  ", (R'.length : Int), rfl, congrArg V.int el, mrg_ok (by omega), ?_⟩
      refine ⟨mrg R'.length, "}", rfl, rfl, by rw [mrg_len (by omega), sizeLine_eq]; show _ + 1 ≤ _; omega, ?_⟩
      have eln : y ≠ mrg R'.length ++ "}" := fun e => hc ⟨Nat.succ_ne_zero _, e⟩
      refine ⟨rfl, _, rfl, ?_⟩
      rw [decide_eq_false fun e => eln (V.str.inj e)]
      exact G
end
end K58
set_option Elab.async false
set_option linter.all false
set_option maxRecDepth 100000
set_option pp.maxSteps 500
set_option pp.deepTerms.threshold 8
set_option pp.deepTerms false
namespace K58
open PySem PySem.Spec PyProof.Rows L2 Lj
section
variable {P : Program} {w : World} {K : PySem.W.Frag} {mg : Str → Option Value} {base : Heap} {C : Addr}
open TL
/-- any value is read as a text -/
def spRpA (K : PySem.W.Frag) (CB : Addr) : Sp := fun vs H Q E => ∃ (p n : Int) (v : V) (dv : PyData), vs = [.int p, .int n, v] ∧ Dd K H v dv ∧ p ≤ 10007 ∧ n ≤ 8 ∧
  ((∃ y : Str, dv = .str y ∧ y.length ≤ 7000000 ∧ cnl y ≤ 400 ∧ (∀ b, rdP p n y = .inl b → ∀ H' v', Same H H' → BodyAt K H' b v' → Q v' H') ∧
      (∀ i : Nat, rdP p n y = .inr i → ∀ d H', Same H H' → H d = none → H' d = some (.xd [("line", .int (i : Int))]) → E (.ref CB) (some d) H')) ∨
    ((∀ y, dv ≠ .str y) ∧ ∀ d H', Same H H' → H d = none → H' d = some (.xd [("line", .int 0)]) → E (.ref CB) (some d) H'))
theorem rdP_inr {p n : Int} {y : Str} {i : Nat} (h : rdI p n ([[]], []) 0 (lnsOf y) = .inr i) : rdP p n y = .inr i := by
  unfold rdP
  rw [h]
theorem rdP_inl {p n : Int} {y : Str} {S : RdS} (h : rdI p n ([[]], []) 0 (lnsOf y) = .inl S) : rdP p n y = endP (lnsOf y).length S := by
  unfold rdP
  rw [h]
theorem lnsOf_len (y : Str) : (lnsOf y).length ≤ cnl y + 1 := by
  unfold lnsOf
  split
  · exact Nat.zero_le _
  · rw [split_count nl_tl nl_hk]
    exact Nat.le_refl _
theorem lnsOf_short (y : Str) : ∀ x ∈ lnsOf y, x.length ≤ y.length := by
  unfold lnsOf
  split
  · intro x mx
    cases mx
  · exact split_short nl_tl nl_hk
theorem lines_if {σ : L2.St} {H : Hp} {R : VK} {t : Str} {ls : List Str} (hσ : σ[2]? = some (some (.str t))) (he : t = "" → ls = []) (hs : t ≠ "" → Txt.split t "\n" = ls) (hl : t.length + 2 ≤ sizeLine) (k : ∀ lp, H lp = none → R (.ref lp) (upd H lp (.lst (ls.map V.str)))) :
    tIf (tTest (tOp rNe (tVar 2) (tC (V.str "")))) (tM1 (fun x xs H Q => ∃ a b, x = .str a ∧ xs = [.str b] ∧ (b.length == 0) = false ∧ a.length + 2 ≤ sizeLine ∧ rNewStrs (Txt.split a b) H Q) (tVar 2) (tC (V.str "\n"))) (tLst tNil) σ H R := by
  by_cases c : t = ""
  · refine ⟨_, hσ, rfl, _, rfl, ?_⟩
    rw [decide_eq_true (by rw [c])]
    refine ⟨Nat.zero_le _, fun lp nl => ?_⟩
    have := k lp nl
    rw [he c] at this
    exact this
  · refine ⟨_, hσ, rfl, _, rfl, ?_⟩
    rw [decide_eq_false fun e => c (V.str.inj e)]
    refine ⟨_, hσ, ⟨_, rfl⟩, _, _, rfl, rfl, by decide +kernel, hl, fun lp nl => ?_⟩
    rw [hs c]
    exact k lp nl
set_option maxHeartbeats 4000000 in
theorem ok_readA (M : Bl mg) (m_str : mg "str" = none) {CB fB : Addr} (TB : ErrTxt P K mg "BadText" "line" CB fB) (F : At K mg "read_program" sRead_program ["p", "n", "text"]) (T : DTx K mg C) {k : Nat} (h1 : KHas P w K mg base k C "Reader" ["self", "p", "n"] (spRdI K C)) (h2 : MHas P w K mg base (k + 1) C "takes" ["self", "line"] (spTkA K C)) (h3 : Has P w K mg base (k + 1) "is_program" ["p", "n", "value"] (spIP K)) : HasE P w K mg base (k + 2) "read_program" ["p", "n", "text"] (spRpA K CB) := by
  obtain ⟨_, _, cReader⟩ := h1
  obtain ⟨_, _, cTakes⟩ := h2
  obtain ⟨_, _, cIs_program⟩ := h3
  refine HasE.by F scRead_program (fun vs H Q E h => ?_) (fun f cdv A out s H vs Q E hg hr h => ?_)
  · obtain ⟨_, _, _, _, rfl, _⟩ := h
    rfl
  obtain ⟨p, n, v, dv, rfl, dd, p1, n1, q⟩ := h
  refine ⟨_, (pss_cons (ps_if (pt_not (pt_val (pe_callB call_isi (by rfl) M.isinstance_ (by decide +kernel) (pa_cons (pv 2) (pa_cons (pe_bltn (v := .ty "str") (by rfl) m_str (by decide +kernel) rfl) pa_nil)))))
    (pss_one (ps_raiseErr rfl TB hr (takes_of rfl rfl rfl rfl) (pa_cons pe_int pa_nil) (by rfl)))
    pss_nil)
  (pss_cons (ps_set (i := 3) scRead_program.nd rfl (.inl rfl) (pe_ifExp (pt_cmpR op_ne (pv 2) pe_str (nomark _)) (pe_split (pv 2) pe_str) (pe_lst pa_nil)))
  (pss_cons (ps_set (i := 4) scRead_program.nd rfl (.inl rfl) (pe_kcal cReader hg hr (by rfl) (pa_cons (pv 0) (pa_cons (pv 1) pa_nil))))
  (pss_cons (ps_for (passes_of rfl) rfl (pi_enum (by rfl) M.enumerate_ (pa_cons (pv 3) pa_nil)) (pg_tup rfl (pgs_cons (pg_name (i := 5) scRead_program.nd rfl (.inl rfl)) (pgs_cons (pg_name (i := 6) scRead_program.nd rfl (.inl rfl)) pgs_nil)))
    (pss_one (ps_if (pt_not (pt_val (pe_mcal cTakes hg hr (pv 4) (pa_cons (pv 6) pa_nil))))
    (pss_one (ps_raiseErr rfl TB hr (takes_of rfl rfl rfl rfl) (pa_cons (pv 5) pa_nil) (by rfl)))
    pss_nil)))
  (pss_cons (ps_if (pt_cmpR (op_neD hr.units) (pe_fld (pv 4) rfl) (pe_lst pa_nil) (nomark _))
    (pss_one (ps_raiseErr rfl TB hr (takes_of rfl rfl rfl rfl) (pa_cons (pe_callB call_len_seq (by rfl) M.len_ (by decide +kernel) (pa_cons (pv 3) pa_nil)) pa_nil) (by rfl)))
    pss_nil)
  (pss_cons (ps_set (i := 7) scRead_program.nd rfl (.inl rfl) (pe_callTy call_tuple_of (by rfl) M.tuple_ (by decide +kernel) (pa_cons (pe_ix ix_list (pe_fld (pv 4) rfl) pe_int (fun _ _ => rfl)) pa_nil)))
  (pss_cons (ps_if (pt_not (pt_val (pe_cal cIs_program hg hr (by rfl) (pa_cons (pv 0) (pa_cons (pv 1) (pa_cons (pv 7) pa_nil))))))
    (pss_one (ps_raiseErr rfl TB hr (takes_of rfl rfl rfl rfl) (pa_cons pe_int pa_nil) (by rfl)))
    pss_nil)
  (pss_one (ps_ret (pv 7)))))))))), ?_⟩
  have ty := Dd.kind dd
  cases dd with
  | int i =>
    rcases q with ⟨_, e, _⟩ | ⟨_, q⟩
    · cases e
    refine ⟨_, rfl, _, _, _, _, false, rfl, .ty _, (show TyX K H _ (.type "int") from ty), kit_ty (by decide +kernel), _, rfl, iteT ?_⟩
    exact ⟨.int 0, rfl, fun d nd => q d _ (same_new nd) nd upd_same⟩
  | bl i =>
    rcases q with ⟨_, e, _⟩ | ⟨_, q⟩
    · cases e
    refine ⟨_, rfl, _, _, _, _, false, rfl, .ty _, (show TyX K H _ (.type "bool") from ty), kit_ty (by decide +kernel), _, rfl, iteT ?_⟩
    exact ⟨.int 0, rfl, fun d nd => q d _ (same_new nd) nd upd_same⟩
  | non =>
    rcases q with ⟨_, e, _⟩ | ⟨_, q⟩
    · cases e
    refine ⟨_, rfl, _, _, _, _, false, rfl, .ty _, (show TyX K H _ (.type "NoneType") from ty), kit_ty (by decide +kernel), _, rfl, iteT ?_⟩
    exact ⟨.int 0, rfl, fun d nd => q d _ (same_new nd) nd upd_same⟩
  | lst a r =>
    rcases q with ⟨_, e, _⟩ | ⟨_, q⟩
    · cases e
    refine ⟨_, rfl, _, _, _, _, false, rfl, .ty _, (show TyX K H _ (.type "list") from ty), kit_ty (by decide +kernel), _, rfl, iteT ?_⟩
    exact ⟨.int 0, rfl, fun d nd => q d _ (same_new nd) nd upd_same⟩
  | tup a r =>
    rcases q with ⟨_, e, _⟩ | ⟨_, q⟩
    · cases e
    refine ⟨_, rfl, _, _, _, _, false, rfl, .ty _, (show TyX K H _ (.type "tuple") from ty), kit_ty (by decide +kernel), _, rfl, iteT ?_⟩
    exact ⟨.int 0, rfl, fun d nd => q d _ (same_new nd) nd upd_same⟩
  | dct a e r =>
    rcases q with ⟨_, e, _⟩ | ⟨_, q⟩
    · cases e
    refine ⟨_, rfl, _, _, _, _, false, rfl, .ty _, (show TyX K H _ (.type "dict") from ty), kit_ty (by decide +kernel), _, rfl, iteT ?_⟩
    exact ⟨.int 0, rfl, fun d nd => q d _ (same_new nd) nd upd_same⟩
  | str y =>
  obtain ⟨y', e, yl, yc, q, qe⟩ : ∃ y' : Str, PyData.str y = .str y' ∧ y'.length ≤ 7000000 ∧ cnl y' ≤ 400 ∧ (∀ b, rdP p n y' = .inl b → ∀ H' v', Same H H' → BodyAt K H' b v' → Q v' H') ∧
      (∀ i : Nat, rdP p n y' = .inr i → ∀ d H', Same H H' → H d = none → H' d = some (.xd [("line", .int (i : Int))]) → E (.ref CB) (some d) H') := by
    rcases q with h | ⟨e, _⟩
    · exact h
    · exact absurd rfl (e y)
  have e : y = y' := by injection e
  subst e
  refine ⟨_, rfl, _, _, _, _, true, rfl, .ty _, (show TyX K H (.str _) (.type "str") from Dd.kind (Dd.str _)), kit_ty (by decide +kernel), _, rfl, ?_⟩
  refine iteF ?_
  have ll := lnsOf_len y
  have lsh := lnsOf_short y
  refine lines_if (ls := lnsOf y) rfl ?_ ?_ ?_ ?_
  · intro e
    unfold lnsOf
    rw [if_pos e]
  · intro e
    unfold lnsOf
    rw [if_neg e]
  · rw [sizeLine_eq]
    omega
  intro lp nl
  generalize els : lnsOf y = ls at ll lsh ⊢
  have s1 := same_new (H := H) (o := .lst (ls.map V.str)) nl
  have hl := upd_same (H := H) (a := lp) (o := .lst (ls.map V.str))
  generalize upd H lp (.lst (ls.map V.str)) = H1 at s1 hl ⊢
  refine ⟨_, rfl, _, rfl, fun x dx nx nd ne => ?_⟩
  have s2 : Same H1 (upd (upd H1 dx (.own x)) x (.ins C dx [])) := (same_new nd).trans (same_new (by rw [upd_ne (Ne.symm ne)]; exact nx))
  refine ⟨H1, x, dx, p, n, rfl, s2, nx, upd_same, fun H2 rd => ⟨rfl, ?_⟩⟩
  have hl2 : ∀ {H' s}, RdAt K C H1 H' x p n s → SqL K H' lp (ls.map V.str) := fun r => SqL.of (r.1 _ _ hl)
  refine ⟨_, rfl, lp, _, rfl, hl2 rd, ?_⟩
  refine for_it (walk_enum (K := K) (a := lp) (xs := ls.map V.str)) (fun i σ H' => ∃ y5 y6 S, σ = [some (.int p), some (.int n), some (.str y), some (.ref lp), some (.ref x), y5, y6, none] ∧ rdI p n ([[]], []) 0 (ls.take i) = .inl S ∧ RdAt K C H1 H' x p n S) ⟨_, _, ([[]], []), rfl, rfl, rd⟩ (fun i σ H' _ ⟨_, _, _, _, _, h⟩ => hl2 h) ?_ ?_
  · rintro i y0 σ H3 H4 hi ⟨y5, y6, S, rfl, eS, rd3⟩ ⟨T, x1, x2, rfl, nT, rfl, e1, e2⟩
    cases e1
    have e2 : (ls.map V.str)[i]? = some x2 := e2
    rw [List.getElem?_map] at e2
    obtain ⟨l, hl4, rfl⟩ : ∃ l, ls[i]? = some l ∧ x2 = .str l := by
      cases hh : ls[i]? with
      | none =>
        rw [hh] at e2
        cases e2
      | some l =>
        rw [hh] at e2
        exact ⟨l, rfl, (Option.some.inj e2).symm⟩
    have ml := List.mem_of_getElem? hl4
    have il : i < ls.length := (List.getElem?_eq_some_iff.mp hl4).1
    have sT := same_new (o := .tup [V.int (i : Nat), .str l]) nT
    have rd4 := rd3.same sT
    refine ⟨T, _, rfl, SqT.of upd_same, rfl, _, _, rfl, _, _, rfl, rfl, ?_⟩
    generalize upd H3 T (.tup [V.int (i : Nat), .str l]) = H4 at rd4 ⊢
    obtain ⟨gs, me⟩ := rdI_len eS
    obtain ⟨⟨b1, B1, eB⟩, r4, _⟩ := gs.form
    have mm : ∀ c ∈ S.1, c.length ≤ 1000 := fun c mc => by
      have h1 := mem_meN mc
      have h2 := szN_len c
      omega
    have nxt := fun (t : Tk) (h : lnTk p n S.2.length l = some t) => rdI_next eS hl4 h
    have fl := fun (h : lnTk p n S.2.length l = none) => rdI_fail eS hl4 h
    obtain ⟨S1, R1⟩ := S
    cases eB
    obtain ⟨s04, _, dx4, _, _, _, _, _, _, hx4, _⟩ := id rd4
    refine ⟨_, rfl, x, dx4, _, rfl, hx4, rfl, _, rfl, H1, x, p, n, b1, B1, R1, l, rfl, rd4, gs, mm, ?_, p1, n1, fun h H5 rd5 => ⟨_, rfl, iteT ?_⟩, fun t h H5 rd5 => ⟨_, rfl, iteF ?_⟩⟩
    · have := lsh l ml
      omega
    · have e0 := rdP_inr (p := p) (n := n) (y := y) (i := i) (by rw [els]; exact fl h)
      have s5 : Same H H5 := s1.trans rd5.1
      exact ⟨_, rfl, _, rfl, fun d nd => qe i e0 d _ (s5.trans (same_new nd)) (s5.free nd) upd_same⟩
    · exact ⟨_, _, _, rfl, nxt t h, rd5⟩
  rintro σ H3 ⟨y5, y6, S, rfl, eS, rd3⟩
  rw [show (ls.map V.str).length = ls.length from List.length_map _, List.take_length] at eS
  have eS0 := eS
  rw [← els] at eS
  have eP := rdP_inl eS
  rw [els] at eP
  obtain ⟨gs, me⟩ := rdI_len (i := ls.length) (by rw [List.take_length]; exact eS0)
  obtain ⟨⟨b, B1, eB⟩, r4, bl⟩ := gs.form
  obtain ⟨S1, R⟩ := S
  cases eB
  obtain ⟨s13, nx3, dx3, lb, lr, bs, b0, r0, nbr, hx, hb, hr', nd3, bd⟩ := rd3
  have hr' : H3 lr = some (.lst (R.reverse.map V.int)) := hr'
  refine ⟨_, rfl, x, C, dx3, _, _, rfl, hx, T.cl, T.nR, drf_r, Nat.zero_le _, fun e ne => ?_⟩
  have s4 := same_new (H := H3) (o := .lst []) ne
  have he := upd_same (H := H3) (a := e) (o := .lst [])
  generalize upd H3 e (.lst []) = H4 at s4 he ⊢
  refine ⟨.list (R.reverse.map PyData.int), .list [], .lst (SqL.of (s4 _ _ hr')) (ints_dp57 _), .lst (SqL.of he) .nil, shaped_lst57 _, rfl, ?_⟩
  rw [eqv_nil]
  cases R with
  | cons k' R' =>
    have eN : (!((k' :: R').reverse.map PyData.int).isEmpty) = true := by
      rw [List.reverse_cons, List.map_append]
      cases R'.reverse.map PyData.int <;> rfl
    rw [eN]
    refine ⟨_, rfl, iteT ?_⟩
    have s5 : Same H H4 := s1.trans (s13.trans s4)
    refine ⟨_, rfl, lp, _, rfl, .inl (SqL.of (s4 _ _ (s13 _ _ hl))), _, rfl, fun d nd => qe ls.length eP d _ (s5.trans (same_new nd)) (s5.free nd) ?_⟩
    rw [upd_same, List.length_map]
  | nil =>
  have bl : B1.length + 1 = 1 := bl
  obtain rfl : B1 = [] := List.length_eq_zero_iff.mp (by omega)
  refine ⟨_, rfl, iteF ?_⟩
  have bd : BdsAt K H1 H3 lb lr bs ([] ++ [b]) := bd
  obtain ⟨bs', a, rfl, bd', a0, nab, nar, us, ha, tr⟩ := paired_last bd
  cases bd'
  have hb : H3 lb = some (.lst [V.ref a]) := hb
  refine ⟨_, rfl, x, C, dx3, _, _, rfl, s4 _ _ hx, T.cl, T.nB, drf_b, lb, _, 0, .ref a, rfl, rfl, SqL.of (s4 _ _ hb), atI_zero57 _ _, ?_⟩
  refine ⟨a, us, rfl, .inl ⟨SqL.of (s4 _ _ ha), fun t nt => ?_⟩⟩
  have s5 := same_new (H := H4) (o := .tup us) nt
  have ht := upd_same (H := H4) (a := t) (o := .tup us)
  generalize upd H4 t (.tup us) = H5 at s5 ht ⊢
  have tr5 := TrsAt.kt (Kt.same (s4.trans s5)) _ _ tr
  have bd5 : BodyAt K H5 b (.ref t) := ⟨t, us, rfl, SqT.of ht, tr5⟩
  have dr : drs (GoodOp p n) R18 b 4 := gs.top
  have szb : szN b ≤ 401 := by
    have h1 := mem_meN (s := ([b], [])) (c := b) List.mem_cons_self
    omega
  have hR : ∀ k, R18 k → 0 ≤ k ∧ k ≤ 10 ^ 18 := fun k h => h
  have okb : okB 5 b := drs_ok (d := 4) (fun _ _ g => GoodOp.w7 g) hR (by omega) dr
  have okp : okP p n (.tuple (datTs b)) b = wit b := by
    unfold okP
    rw [show okBl (okI p n 4) (.tuple (datTs b)) = true from okbl hR (fun _ _ g => okI_good g) b 4 dr, Bool.true_and]
    rfl
  have lx1 := lx_prog dr
  refine ⟨_, rfl, _, rfl, _, rfl, p, n, .ref t, .tuple (datTs b), b, rfl, Lj.Dp.dd57 (Dp.tup (SqT.of ht) (trs_dp b us tr5)), by omega, fun _ => ⟨bd5, okb⟩, fun H6 s6 => ⟨_, rfl, ?_⟩⟩
  rw [okp]
  have sE : Same H H6 := (((s1.trans s13).trans s4).trans s5).trans s6
  have eP : rdP p n y = if wit b = true then .inl b else .inr 0 := eP
  cases hw : wit b with
  | true =>
    rw [hw, if_pos rfl] at eP
    refine iteF ?_
    exact ⟨_, rfl, q b eP H6 _ sE ⟨t, us, rfl, (Kt.same s6).sq (SqT.of ht), TrsAt.kt (Kt.same s6) _ _ tr5⟩⟩
  | false =>
    rw [hw] at eP
    refine iteT ?_
    exact ⟨.int 0, rfl, fun d nd => qe 0 eP d _ (sE.trans (same_new nd)) (sE.free nd) upd_same⟩
end
end K58
set_option Elab.async false
set_option linter.all false
set_option maxRecDepth 100000
set_option pp.maxSteps 500
set_option pp.deepTerms.threshold 8
set_option pp.deepTerms false
namespace K58
open PySem PySem.Spec PyProof.Rows L2 Lj
section
variable {P : Program} {w : World} {K : PySem.W.Frag} {mg : Str → Option Value} {base : Heap}
open TL
def spLnsC (K : PySem.W.Frag) (d : Nat) : Sp := fun vs H Q _ => ∃ (v : V) (p n : Int) (b : List Tr) (m e : Nat), vs = [v, .int (m : Int)] ∧ BodyAt K H b v ∧ drs (GoodOp p n) Rk18 b e ∧ e < d ∧ m + e ≤ 5 ∧ szN b ≤ 400 ∧ p ≤ 10007 ∧ n ≤ 8 ∧
  ∀ H' l, Same H H' → H l = none → H' l = some (.lst ((lns m b).map fun x => V.str (lnT x))) → Q (.ref l) H'
theorem ok_lnsC1 (M : Bl mg) (m_str : mg "str" = none) (F : At K mg "_law_lines" sLines ["_law_program", "_law_level"]) {d k : Nat} (h0 : Has P w K mg base k "_law_lines" ["_law_program", "_law_level"] (spLnsC K d)) : Has P w K mg base (k + 1) "_law_lines" ["_law_program", "_law_level"] (spLnsC K (d + 1)) := by
  obtain ⟨_, _, cLines⟩ := h0
  refine Has.by F scLines (fun vs H Q E h => ?_) (fun f cdv A out s H vs Q E hg hr h => ?_)
  · obtain ⟨_, _, _, _, _, _, rfl, _⟩ := h
    rfl
  obtain ⟨v, p, n, b, m, e, rfl, ⟨c, us, rfl, sq, r⟩, dr, ed, me, sz, p1, n1, q⟩ := h
  refine ⟨_, (pss_cons (ps_set (i := 2) scLines.nd rfl (.inl rfl) (pe_lst pa_nil))
  (pss_cons (ps_for PassesOwn.never rfl (pi_tup (pv 0)) (pg_name (i := 3) scLines.nd rfl (.inl rfl))
    (pss_one (ps_if (pt_cmpR op_eq (pe_ix ix_tup (pv 3) pe_int (fun _ _ => rfl)) pe_str (nomark _))
    (pss_cons (ps_expr (pe_bm PySem.F.plainAttrs_list PySem.F.slot_list_append PySem.F.type_list_append mt_append (pv 2) (pa_cons (pe_op op_add_str (pe_op op_add_str (pe_op op_add_str (pe_op op_mulS pe_str (pv 1)) pe_str) (pe_callTy call_strIS (by rfl) m_str (by decide +kernel) (pa_cons (pe_ix ix_tup (pv 3) pe_int (fun _ _ => rfl)) pa_nil))) pe_str) pa_nil)))
  (pss_cons (ps_expr (pe_bm PySem.F.plainAttrs_list PySem.F.slot_list_extend PySem.F.type_list_extend mt_extend (pv 2) (pa_cons (pe_cal cLines hg hr (by rfl) (pa_cons (pe_ix ix_tup (pv 3) pe_int (fun _ _ => rfl)) (pa_cons (pe_op op_add (pv 1) pe_int) pa_nil))) pa_nil)))
  (pss_one (ps_expr (pe_bm PySem.F.plainAttrs_list PySem.F.slot_list_append PySem.F.type_list_append mt_append (pv 2) (pa_cons (pe_op op_add_str (pe_op op_mulS pe_str (pv 1)) pe_str) pa_nil))))))
    (pss_one (ps_expr (pe_bm PySem.F.plainAttrs_list PySem.F.slot_list_append PySem.F.type_list_append mt_append (pv 2) (pa_cons (pe_op op_add_str (pe_op op_mulS pe_str (pv 1)) (pe_join pe_str (pe_lc (own := [("_law_part", 4)]) (g := gName 4) (by rfl) scLines.nd (pi_tup (pv 3)) (blkOk_by (own := [("_law_part", 4)]) (N := ["_law_program", "_law_level", "_law_found", "_law_op", "_law_part"]) (sc := defScope sLines) (by decide +kernel)) (fun _ _ _ _ _ => (pg_name (i := 4) scLines.nd rfl (.inl rfl))) (fun _ _ _ _ _ => pts_nil) (fun _ _ _ _ _ => (pe_callTy call_strIS (by rfl) m_str (by decide +kernel) (pa_cons (pv 4) pa_nil)))))) pa_nil)))))))
  (pss_one (ps_ret (pv 2))))), ?_⟩
  refine ⟨Nat.zero_le _, fun l nl => ?_⟩
  refine ⟨_, rfl, c, rfl, ⟨_, (Kt.same (same_new nl)).sq sq⟩, ?_⟩
  refine for_tup (xs := us) (fun i σ H' => ∃ y, σ = [some (.ref c), some (.int (m : Int)), some (.ref l), y, none] ∧ H' l = some (.lst ((lns m (b.take i)).map fun x => V.str (lnT x))) ∧ Same H H') ⟨none, rfl, ?_, same_new nl⟩ (fun i σ H' _ ⟨_, _, _, s⟩ => (Kt.same s).sq sq) ?_ ?_
  · rw [List.take_zero, lns]
    exact upd_same
  · rintro i x σ H1 hx ⟨y, rfl, e1, s1⟩
    obtain ⟨t, ht, hT⟩ := r.get hx
    have hT := TrAt.kt (Kt.same s1) t x hT
    have tk : lns m (b.take (i + 1)) = lns m (b.take i) ++ t.lns m := by
      rw [List.take_add_one, ht]
      show lns m (b.take i ++ [t]) = _
      rw [lns_append, lns_one]
    rw [tk]
    have ll : (lns m (b.take i) ++ t.lns m).length ≤ 800 := by
      have h1 := lns_len b m
      have h2 : lns m b = (lns m (b.take i) ++ t.lns m) ++ lns m (b.drop (i + 1)) := by
        rw [← tk, ← lns_append, List.take_append_drop]
      rw [h2, List.length_append] at h1
      omega
    rw [List.length_append] at ll
    cases t with
    | op z as =>
      have hT0 := hT
      rw [TrAt] at hT
      obtain ⟨a, rfl, sa⟩ := hT
      have go : GoodOp p n z as := by
        have := drs_at57 dr ht
        rw [Tr.dr] at this
        exact this
      have nz : z ≠ "loop" := fun e => w7_noloop (GoodOp.w7 go) e
      have tl1 : (tkT (.op z as)).length ≤ 80 := tk_len p1 n1 (t := .op z as) go
      have ml := mrg_len (d := m) (by omega)
      refine ⟨_, rfl, a, _, 0, .str z, rfl, rfl, sa, at0, rfl, _, rfl, iteN (fun e => nz (V.str.inj e)) ?_⟩
      have ok : TkOk p n (.op z as) := go
      obtain ⟨wl, wn⟩ := wds_len p1 n1 ok
      have ws := wds_sum p1 n1 ok
      refine ⟨_, rfl, .inl ⟨rfl, _, SqL.of e1⟩, _, rfl, "  ", (m : Int), rfl, rfl, mrg_ok (by omega), ?_⟩
      refine ⟨⟨_, rfl⟩, _, rfl, a, rfl, ⟨_, sa⟩, fun D nD => ?_⟩
      refine lc_tup (xs := .str z :: as.map V.int) (fun i H' => H' D = some (.lst (((wds (.op z as)).take i).map V.str)) ∧ Same H1 H') ⟨upd_same, same_new nD⟩ (fun i H' _ ⟨_, s⟩ => (Kt.same s).sq sa) ?_ ?_
      · rintro i y H2 hy ⟨e2, s2⟩
        have wlen : (wds (.op z as)).length = as.length + 1 := by
          show (as.map numS).length + 1 = _
          rw [List.length_map]
        have il : i < as.length + 1 := by
          have := (List.getElem?_eq_some_iff.mp hy).1
          rwa [List.length_cons, List.length_map] at this
        obtain ⟨x, ex⟩ : ∃ x, (wds (.op z as))[i]? = some x := ⟨_, List.getElem?_eq_getElem (show i < (wds (.op z as)).length by omega)⟩
        have fin : ∀ H3, Same H2 H3 → (∃ xs, H3 D = some (.lst xs) ∧ xs.length + 1 ≤ sizeLine ∧ (upd H3 D (.lst (xs ++ [V.str x]))) D = some (.lst (((wds (.op z as)).take (i + 1)).map V.str)) ∧ Same H1 (upd H3 D (.lst (xs ++ [V.str x])))) := fun H3 s3 => by
          refine ⟨_, s3 _ _ e2, by rw [List.length_map, List.length_take, sizeLine_eq]; omega, ?_, same_upd (s2.trans s3) nD⟩
          rw [upd_same, List.take_add_one, ex, List.map_append]
          rfl
        obtain ⟨xs, f1, f2, f3, f4⟩ := fin H2 (Same.refl _)
        cases i with
        | zero =>
          cases hy
          cases ex
          exact ⟨rfl, _, rfl, .inr ⟨_, rfl, xs, f1, f2, f3, f4⟩⟩
        | succ i =>
          have hy : (as.map V.int)[i]? = some y := hy
          have ex : (as.map numS)[i]? = some x := ex
          rw [List.getElem?_map] at hy ex
          obtain ⟨g, eg, rfl⟩ := Option.map_eq_some_iff.mp hy
          rw [eg] at ex
          cases ex
          obtain ⟨g0, g1⟩ := good_small p1 n1 go g (List.mem_of_getElem? eg)
          exact ⟨rfl, _, rfl, .inl ⟨_, rfl, log_small (by omega), xs, f1, f2, f3, f4⟩⟩
      rintro H2 ⟨e2, s2⟩
      have wlen : (wds (.op z as)).length = (V.str z :: as.map V.int).length := by
        show (as.map numS).length + 1 = (as.map V.int).length + 1
        rw [List.length_map, List.length_map]
      rw [← wlen, List.take_length] at e2
      have d1 : (" " : Str).length = 1 := by decide +kernel
      refine ⟨_, D, wds (.op z as), rfl, rfl, .inl (SqL.of e2), by rw [d1]; omega, ?_⟩
      refine ⟨_, _, rfl, rfl, by show (mrg m).length + (tkT (.op z as)).length ≤ _; rw [ml, sizeLine_eq]; omega, l, _, _, rfl, rfl, s2 _ _ e1, by rw [List.length_map, sizeLine_eq]; omega, _, rfl, ?_, same_upd (s1.trans s2) nl⟩
      rw [upd_same, Tr.lns, List.map_append]
      rfl
    | loop kk b' =>
      have hT0 := hT
      rw [TrAt] at hT
      obtain ⟨a, g, ws, rfl, sa, sg, r2⟩ := hT
      obtain ⟨e', rfl, k01, dr2⟩ := drs_loop57 dr ht
      have ml := mrg_len (d := m) (by omega)
      refine ⟨_, rfl, a, _, 0, .str "loop", rfl, rfl, sa, rfl, rfl, _, rfl, iteP rfl ?_⟩
      have nk := numS_len k01.1 k01.2
      have q1 : ("loop " : Str).length = 5 := by decide +kernel
      have q2 : (" {" : Str).length = 2 := by decide +kernel
      have q3 : ("  " : Str).length = 2 := by decide +kernel
      have q4 : ("}" : Str).length = 1 := by decide +kernel
      rw [Tr.lns, List.length_cons, List.length_append, List.length_singleton] at ll
      refine ⟨_, rfl, .inl ⟨rfl, _, SqL.of e1⟩, _, rfl, "  ", (m : Int), rfl, rfl, mrg_ok (by omega), mrg m, "loop ", rfl, rfl, by rw [ml, q1, sizeLine_eq]; omega, _, rfl, a, _, 1, .int kk, rfl, rfl, sa, rfl, .inl ⟨kk, rfl, log_small (by have := k01.1; have := k01.2; omega), _, _, rfl, rfl, by rw [app_len, ml, q1, sizeLine_eq]; omega, _, _, rfl, rfl, by rw [app_len, app_len, ml, q1, q2, sizeLine_eq]; omega, l, _, _, rfl, rfl, e1, by rw [List.length_map, sizeLine_eq]; omega, ?_⟩⟩
      have t1 : mrg m ++ "loop " ++ numS kk ++ " {" = lnT (m, .opn kk) := by
        show mrg m ++ "loop " ++ numS kk ++ " {" = mrg m ++ ("loop " ++ numS kk ++ " {")
        simp only [Str.append_assoc]
      rw [t1]
      generalize eH : upd H1 l _ = H2
      have hl2 : H2 l = some (.lst ((lns m (b.take i) ++ [(m, Tk.opn kk)]).map fun x => V.str (lnT x))) := by
        rw [← eH, upd_same, List.map_append]
        rfl
      have s2 : Same H H2 := by
        rw [← eH]
        exact same_upd s1 nl
      have k12 : Kt H1 H2 := by
        rw [← eH]
        exact Kt.but But.upd e1
      clear eH
      refine ⟨_, rfl, .inl ⟨rfl, _, SqL.of hl2⟩, _, rfl, a, _, 2, .ref g, rfl, rfl, k12.sq sa, rfl, _, rfl, (m : Int), 1, rfl, rfl, .ref g, p, n, b', m + 1, e', rfl, ⟨g, ws, rfl, k12.sq sg, TrsAt.kt k12 _ _ r2⟩, dr2, by omega, by omega, ?_, p1, n1, fun H3 l3 s3 nl3 hl3 => ?_⟩
      · have h3 := lns_len57 ht
        omega
      have hl3' := s3 _ _ hl2
      have ll3 := List.length_map (as := lns (m + 1) b') (fun x => V.str (lnT x))
      refine ⟨l, l3, _, _, rfl, rfl, hl3', hl3, by rw [List.length_map, List.length_map, List.length_append, List.length_singleton, sizeLine_eq]; omega, ?_⟩
      generalize eH : upd H3 l _ = H4
      have hl4 : H4 l = some (.lst (((lns m (b.take i) ++ [(m, Tk.opn kk)]) ++ lns (m + 1) b').map fun x => V.str (lnT x))) := by
        rw [← eH, upd_same, List.map_append (l₁ := lns m (b.take i) ++ [(m, Tk.opn kk)])]
      have s4 : Same H H4 := by
        rw [← eH]
        exact same_upd (s2.trans s3) nl
      clear eH
      refine ⟨_, rfl, .inl ⟨rfl, _, SqL.of hl4⟩, _, rfl, "  ", (m : Int), rfl, rfl, mrg_ok (by omega), mrg m, "}", rfl, rfl, by rw [ml, q4, sizeLine_eq]; omega, l, _, _, rfl, rfl, hl4, by rw [List.length_map, List.length_append, List.length_append, List.length_singleton, sizeLine_eq]; omega, _, rfl, ?_, same_upd s4 nl⟩
      rw [upd_same, Tr.lns]
      have e6 : lns m (b.take i) ++ (m, Tk.opn kk) :: (lns (m + 1) b' ++ [(m, Tk.cls)]) = ((lns m (b.take i) ++ [(m, Tk.opn kk)]) ++ lns (m + 1) b') ++ [(m, Tk.cls)] := by
        simp only [List.append_assoc, List.singleton_append]
        rfl
      rw [e6, List.map_append (l₁ := (lns m (b.take i) ++ [(m, Tk.opn kk)]) ++ lns (m + 1) b')]
      rfl
  · rintro σ H1 ⟨y, rfl, e1, s1⟩
    rw [r.length, List.take_length] at e1
    exact ⟨_, rfl, q H1 l s1 nl e1⟩
theorem ok_lnsC (M : Bl mg) (m_str : mg "str" = none) (F : At K mg "_law_lines" sLines ["_law_program", "_law_level"]) : ∀ d, Has P w K mg base (1 + d) "_law_lines" ["_law_program", "_law_level"] (spLnsC K d)
  | 0 => Has.none F fun vs H Q E ⟨_, _, _, _, _, _, _, _, _, h, _⟩ => Nat.not_lt_zero _ h
  | d + 1 => ok_lnsC1 M m_str F (ok_lnsC M m_str F d)
end
end K58
set_option Elab.async false
set_option linter.all false
set_option maxRecDepth 100000
set_option pp.maxSteps 500
set_option pp.deepTerms.threshold 8
set_option pp.deepTerms false
namespace K58
open PySem PySem.Spec PyProof.Rows L2 Lj
section
variable {P : Program} {w : World} {K : PySem.W.Frag} {mg : Str → Option Value} {base : Heap}
open TL
/-! ### the law's counts -/
theorem ok_total1 (M : Bl mg) (F : At K mg "_law_total" sTotal ["_law_program", "_law_word"]) {n k : Nat} (h : Has P w K mg base k "_law_total" ["_law_program", "_law_word"] (spWI K (okB n))) : Has P w K mg base (k + 1) "_law_total" ["_law_program", "_law_word"] (spWI K (okB (n + 1))) := by
  obtain ⟨_, _, cTotal⟩ := h
  refine Has.by F scTotal (fun vs H Q E h => ?_) (fun f cdv A out s H vs Q E hg hr h => ?_)
  · obtain ⟨v, t, z, rfl, _⟩ := h
    rfl
  obtain ⟨v, b, z, rfl, ⟨c, us, rfl, sq, r⟩, ok, hz, q⟩ := h
  refine ⟨_, (pss_one (ps_ret (pe_callB (cr_sum rfl) (by rfl) M.sum_ (by decide +kernel) (pa_cons (pe_lc (own := [("_law_op", 2)]) (g := gName 2) (by rfl) scTotal.nd (pi_tup (pv 0)) (blkOk_by (own := [("_law_op", 2)]) (N := ["_law_program", "_law_word", "_law_op"]) (sc := defScope sTotal) (by decide +kernel)) (fun _ _ _ _ _ => (pg_name (i := 2) scTotal.nd rfl (.inl rfl))) (fun _ _ _ _ _ => pts_nil) (fun _ _ _ _ _ => (pe_ifExp (pt_cmpR op_eq (pe_ix (ix_tupK (K := K) rfl) (pv 2) pe_int (fun _ _ => rfl)) pe_str (nomark _)) (pe_op op_mul (pe_ix (ix_tupK (K := K) rfl) (pv 2) pe_int (fun _ _ => rfl)) (pe_cal cTotal hg hr (by rfl) (pa_cons (pe_ix (ix_tupK (K := K) rfl) (pv 2) pe_int (fun _ _ => rfl)) (pa_cons (pv 1) pa_nil)))) (pe_callTy call_int1 (by rfl) M.int_ (by decide +kernel) (pa_cons (pe_cmpR op_eq (pe_ix (ix_tupK (K := K) rfl) (pv 2) pe_int (fun _ _ => rfl)) (pv 1) (nomark _)) pa_nil))))) pa_nil)))), ?_⟩
  have xl := r.length
  have bl : b.length ≤ 1000 := ok.2
  refine ⟨_, rfl, c, rfl, ⟨_, sq⟩, fun D nD => ?_⟩
  refine lc_tup (xs := us) (fun i H' => H' D = some (.lst (((b.take i).map (Tr.cnt z)).map V.int)) ∧ Same H H') ⟨upd_same, same_new nD⟩ (fun i H' _ h => (Kt.same h.2).sq sq) ?_ ?_
  · rintro i x H' hx ⟨e1, e2⟩
    obtain ⟨t, ht, hT⟩ := r.get hx
    have hT := TrAt.kt (Kt.same e2) t x hT
    have nx : ((b.take (i + 1)).map (Tr.cnt z)).map V.int = ((b.take i).map (Tr.cnt z)).map V.int ++ [.int (t.cnt z)] := by
      rw [List.take_add_one, ht, List.map_append, List.map_append]
      rfl
    have sz : (((b.take i).map (Tr.cnt z)).map V.int).length < sizeLine := by
      rw [List.length_map, List.length_map, List.length_take, sizeLine_eq]
      omega
    rw [nx]
    cases t with
    | op u as =>
      rw [TrAt] at hT
      obtain ⟨a, rfl, sq3⟩ := hT
      refine ⟨rfl, _, rfl, a, _, 0, .str u, rfl, rfl, sq3, at0, rfl, _, rfl, iteN (fun e => okB_op ok ht (V.str.inj e)) ?_⟩
      refine ⟨_, rfl, a, _, 0, .str u, rfl, rfl, sq3, at0, _, rfl, rfl, .inr ⟨_, rfl, ?_⟩⟩
      refine ⟨_, e1, sz, ?_, same_upd e2 nD⟩
      rw [upd_same, Tr.cnt]
      by_cases e : u = z
      · rw [if_pos e, decide_eq_true (congrArg V.str e)]
        rfl
      · rw [if_neg e, decide_eq_false fun h => e (V.str.inj h)]
        rfl
    | loop m b' =>
      rw [TrAt] at hT
      obtain ⟨a, d, ws, rfl, sq3, sq4, r2⟩ := hT
      obtain ⟨c0, c1, ok2⟩ := okB_loop ok ht
      refine ⟨rfl, _, rfl, a, _, 0, .str "loop", rfl, rfl, sq3, rfl, rfl, _, rfl, iteP rfl ?_⟩
      refine ⟨_, rfl, a, _, 1, .int m, rfl, rfl, sq3, rfl, _, rfl, a, _, 2, .ref d, rfl, rfl, sq3, rfl, _, rfl, _, b', z, rfl, ⟨d, ws, rfl, sq4, r2⟩, ok2, hz, fun H2 sm => ?_⟩
      refine ⟨m, _, rfl, rfl, .inl ⟨by omega, by omega⟩, _, sm _ _ e1, sz, ?_, same_upd (e2.trans sm) nD⟩
      rw [upd_same, Tr.cnt]
  · rintro H1 ⟨e1, e2⟩
    rw [xl, List.take_length] at e1
    refine ⟨D, b.map (Tr.cnt z), rfl, SqL.of e1, ?_⟩
    rw [← cnts_map]
    exact q H1 e2
theorem ok_total (M : Bl mg) (F : At K mg "_law_total" sTotal ["_law_program", "_law_word"]) : ∀ n, Has P w K mg base n "_law_total" ["_law_program", "_law_word"] (spWI K (okB n))
  | 0 => Has.none F fun vs H Q E ⟨_, _, _, _, _, h, _⟩ => h
  | n + 1 => ok_total1 M F (ok_total M F n)
/-- an instruction and what stands in it -/
def szT (t : Tr) : Int := 1 + t.inn
theorem szs_map : ∀ b : List Tr, szs b = (b.map szT).sum
  | [] => rfl
  | t :: b => by
    have ih := szs_map b
    rw [List.map_cons, List.sum_cons, ← ih]
    unfold szs szT
    rw [inns, List.length_cons]
    omega
theorem ok_instrs1 (M : Bl mg) (F : At K mg "_law_instructions" sInstructions ["_law_program"]) {n k : Nat} (h : Has P w K mg base k "_law_instructions" ["_law_program"] (spTI K (okB n) szs)) : Has P w K mg base (k + 1) "_law_instructions" ["_law_program"] (spTI K (okB (n + 1)) szs) := by
  obtain ⟨_, _, cInstructions⟩ := h
  refine Has.by F scInstructions (fun vs H Q E h => ?_) (fun f cdv A out s H vs Q E hg hr h => ?_)
  · obtain ⟨v, t, rfl, _⟩ := h
    rfl
  obtain ⟨v, b, rfl, ⟨c, us, rfl, sq, r⟩, ok, q⟩ := h
  refine ⟨_, (pss_one (ps_ret (pe_callB (cr_sum rfl) (by rfl) M.sum_ (by decide +kernel) (pa_cons (pe_lc (own := [("_law_op", 1)]) (g := gName 1) (by rfl) scInstructions.nd (pi_tup (pv 0)) (blkOk_by (own := [("_law_op", 1)]) (N := ["_law_program", "_law_op"]) (sc := defScope sInstructions) (by decide +kernel)) (fun _ _ _ _ _ => (pg_name (i := 1) scInstructions.nd rfl (.inl rfl))) (fun _ _ _ _ _ => pts_nil) (fun _ _ _ _ _ => (pe_ifExp (pt_cmpR op_eq (pe_ix (ix_tupK (K := K) rfl) (pv 1) pe_int (fun _ _ => rfl)) pe_str (nomark _)) (pe_op op_add pe_int (pe_cal cInstructions hg hr (by rfl) (pa_cons (pe_ix (ix_tupK (K := K) rfl) (pv 1) pe_int (fun _ _ => rfl)) pa_nil))) pe_int))) pa_nil)))), ?_⟩
  have xl := r.length
  have bl : b.length ≤ 1000 := ok.2
  refine ⟨_, rfl, c, rfl, ⟨_, sq⟩, fun D nD => ?_⟩
  refine lc_tup (xs := us) (fun i H' => H' D = some (.lst (((b.take i).map szT).map V.int)) ∧ Same H H') ⟨upd_same, same_new nD⟩ (fun i H' _ h => (Kt.same h.2).sq sq) ?_ ?_
  · rintro i x H' hx ⟨e1, e2⟩
    obtain ⟨t, ht, hT⟩ := r.get hx
    have hT := TrAt.kt (Kt.same e2) t x hT
    have nx : ((b.take (i + 1)).map szT).map V.int = ((b.take i).map szT).map V.int ++ [.int (szT t)] := by
      rw [List.take_add_one, ht, List.map_append, List.map_append]
      rfl
    have sz : (((b.take i).map szT).map V.int).length < sizeLine := by
      rw [List.length_map, List.length_map, List.length_take, sizeLine_eq]
      omega
    rw [nx]
    cases t with
    | op u as =>
      rw [TrAt] at hT
      obtain ⟨a, rfl, sq3⟩ := hT
      refine ⟨rfl, _, rfl, a, _, 0, .str u, rfl, rfl, sq3, at0, rfl, _, rfl, iteN (fun e => okB_op ok ht (V.str.inj e)) ?_⟩
      refine ⟨_, e1, sz, ?_, same_upd e2 nD⟩
      rw [upd_same]
      rfl
    | loop m b' =>
      rw [TrAt] at hT
      obtain ⟨a, d, ws, rfl, sq3, sq4, r2⟩ := hT
      obtain ⟨c0, c1, ok2⟩ := okB_loop ok ht
      refine ⟨rfl, _, rfl, a, _, 0, .str "loop", rfl, rfl, sq3, rfl, rfl, _, rfl, iteP rfl ?_⟩
      refine ⟨_, rfl, a, _, 2, .ref d, rfl, rfl, sq3, rfl, _, b', rfl, ⟨d, ws, rfl, sq4, r2⟩, ok2, fun H2 sm => ?_⟩
      refine ⟨1, _, rfl, rfl, _, sm _ _ e1, sz, ?_, same_upd (e2.trans sm) nD⟩
      rw [upd_same]
      rfl
  · rintro H1 ⟨e1, e2⟩
    rw [xl, List.take_length] at e1
    refine ⟨D, b.map szT, rfl, SqL.of e1, ?_⟩
    rw [← szs_map]
    exact q H1 e2
theorem ok_instrs (M : Bl mg) (F : At K mg "_law_instructions" sInstructions ["_law_program"]) : ∀ n, Has P w K mg base n "_law_instructions" ["_law_program"] (spTI K (okB n) szs)
  | 0 => Has.none F fun vs H Q E ⟨_, _, _, _, h, _⟩ => h
  | n + 1 => ok_instrs1 M F (ok_instrs M F n)
def spWit (K : PySem.W.Frag) : Sp := fun vs H Q _ => ∃ v b, vs = [v] ∧ BodyAt K H b v ∧ okB 5 b ∧ ∀ H', Same H H' → Q (.bl (wit b)) H'
theorem ok_within (M : Bl mg) (F : At K mg "_law_within" sWithin ["_law_program"]) {k : Nat} (h1 : Has P w K mg base k "_law_instructions" ["_law_program"] (spTI K (okB 5) szs)) (h2 : Has P w K mg base k "_law_total" ["_law_program", "_law_word"] (spWI K (okB 5))) : Has P w K mg base (k + 1) "_law_within" ["_law_program"] (spWit K) := by
  obtain ⟨_, _, cInstructions⟩ := h1
  obtain ⟨_, _, cTotal⟩ := h2
  refine Has.by F scWithin (fun vs H Q E h => ?_) (fun f cdv A out s H vs Q E hg hr h => ?_)
  · obtain ⟨v, t, rfl, _⟩ := h
    rfl
  obtain ⟨v, b, rfl, hB, ok, q⟩ := h
  refine ⟨_, (pss_cons (ps_if (pt_cmpR op_gt (pe_cal cInstructions hg hr (by rfl) (pa_cons (pv 0) pa_nil)) pe_int (nomark _))
    (pss_one (ps_ret pe_bl))
    pss_nil)
  (pss_one (ps_ret (pe_and (pe_cmpR op_le (pe_cal cTotal hg hr (by rfl) (pa_cons (pv 0) (pa_cons pe_str pa_nil))) pe_int (nomark _)) (pe_one (pe_cmpR op_le (pe_cal cTotal hg hr (by rfl) (pa_cons (pv 0) (pa_cons pe_str pa_nil))) pe_int (nomark _))))))), ?_⟩
  refine ⟨_, rfl, v, b, rfl, hB, ok, fun H1 s1 => ⟨_, _, rfl, rfl, _, rfl, ?_⟩⟩
  unfold wit at q
  by_cases c : szs b ≤ 200
  · refine iteN (by omega) ?_
    rw [decide_eq_true c] at q
    refine ⟨_, rfl, v, b, "read", rfl, hB.kt (Kt.same s1), ok, by decide, fun H2 s2 => ⟨_, _, rfl, rfl, ?_⟩⟩
    have s12 := s1.trans s2
    by_cases c2 : cnts "read" b ≤ 2000
    · refine ⟨_, rfl, iteP c2 ?_⟩
      refine ⟨_, rfl, v, b, "write", rfl, hB.kt (Kt.same s12), ok, by decide, fun H3 s3 => ⟨_, _, rfl, rfl, ?_⟩⟩
      rw [decide_eq_true c2] at q
      exact q H3 (s12.trans s3)
    · refine ⟨_, rfl, iteN c2 ?_⟩
      rw [decide_eq_false c2] at q
      exact q H2 s12
  · refine iteP (by omega) ?_
    rw [decide_eq_false c] at q
    exact q H1 s1
end
end K58
set_option Elab.async false
set_option linter.all false
set_option maxRecDepth 100000
set_option pp.maxSteps 500
set_option pp.deepTerms.threshold 8
set_option pp.deepTerms false
namespace K58
open PySem PySem.Spec PyProof.Rows L2 Lj
section
variable {P : Program} {w : World} {K : PySem.W.Frag} {mg : Str → Option Value} {base : Heap}
def spOnce (K : PySem.W.Frag) (p n : Int) (d : Nat) : Sp := fun vs H Q _ => ∃ (v : V) (b : List Tr) (e : Nat), vs = [v] ∧ BodyAt K H b v ∧ drs (GoodOp p n) Rk18 b e ∧ e < d ∧ szN b ≤ 400 ∧ ∀ H' v', Same H H' → BodyAt K H' (oncs b) v' → Q v' H'
set_option maxHeartbeats 4000000 in
theorem ok_once1 (M : Bl mg) (F : At K mg "_law_once" sOnce ["_law_program"]) {p n : Int} {d k : Nat} (h0 : Has P w K mg base k "_law_once" ["_law_program"] (spOnce K p n d)) : Has P w K mg base (k + 1) "_law_once" ["_law_program"] (spOnce K p n (d + 1)) := by
  obtain ⟨_, _, cOnce⟩ := h0
  refine Has.by F scOnce (fun vs H Q E h => ?_) (fun f cdv A out s H vs Q E hg hr h => ?_)
  · obtain ⟨_, _, _, rfl, _⟩ := h
    rfl
  obtain ⟨v, b, e, rfl, ⟨c, us, rfl, sq, r⟩, dr, ed, sz, q⟩ := h
  have bl := len_szN b
  refine ⟨_, (pss_one (ps_ret (pe_callTy call_tuple_of (by rfl) M.tuple_ (by decide +kernel) (pa_cons (pe_lc (own := [("_law_op", 1)]) (g := gName 1) (by rfl) scOnce.nd (pi_tup (pv 0)) (blkOk_by (own := [("_law_op", 1)]) (N := ["_law_program", "_law_op"]) (sc := defScope sOnce) (by decide +kernel)) (fun _ _ _ _ _ => (pg_name (i := 1) scOnce.nd rfl (.inl rfl))) (fun _ _ _ _ _ => pts_nil) (fun _ _ _ _ _ => (pe_ifExp (pt_cmpR op_eq (pe_ix (ix_tupK (K := K) rfl) (pv 1) pe_int (fun _ _ => rfl)) pe_str (nomark _)) (pe_tup (pa_cons pe_str (pa_cons pe_int (pa_cons (pe_cal cOnce hg hr (by rfl) (pa_cons (pe_ix (ix_tupK (K := K) rfl) (pv 1) pe_int (fun _ _ => rfl)) pa_nil)) pa_nil)))) (pv 1)))) pa_nil)))), ?_⟩
  refine ⟨_, rfl, c, rfl, ⟨_, sq⟩, fun D nD => ?_⟩
  refine lc_tup (xs := us) (fun i H' => ∃ zs, H' D = some (.lst zs) ∧ TrsAt K H' (oncs (b.take i)) zs ∧ Same H H') ⟨[], upd_same, TrsAt.nil, same_new nD⟩ (fun i H' _ ⟨_, _, _, s⟩ => (Kt.same s).sq sq) ?_ ?_
  · rintro i y H1 hy ⟨zs, e1, tz, s1⟩
    obtain ⟨t, ht, hT⟩ := r.get hy
    have hT := TrAt.kt (Kt.same s1) t y hT
    have tk : oncs (b.take (i + 1)) = oncs (b.take i) ++ [t.onc] := by
      rw [List.take_add_one, ht]
      exact oncs_append _ _
    have zl : zs.length ≤ 400 := by
      have := tz.length
      have h2 := len_szN (oncs (b.take i))
      have h3 : szN (b.take i) + szN (b.drop i) = szN b := by rw [← szN_append, List.take_append_drop]
      rw [szN_oncs] at h2
      omega
    have fin : ∀ H2 y', Same H1 H2 → TrAt K H2 t.onc y' → ∃ xs, H2 D = some (.lst xs) ∧ xs.length + 1 ≤ sizeLine ∧ ∃ zs', upd H2 D (.lst (xs ++ [y'])) D = some (.lst zs') ∧ TrsAt K (upd H2 D (.lst (xs ++ [y']))) (oncs (b.take (i + 1))) zs' ∧ Same H (upd H2 D (.lst (xs ++ [y']))) := fun H2 y' s2 hy' => by
      have kt : Kt H2 (upd H2 D (.lst (zs ++ [y']))) := Kt.but But.upd (s2 _ _ e1)
      refine ⟨zs, s2 _ _ e1, by rw [sizeLine_eq]; omega, zs ++ [y'], upd_same, ?_, same_upd (s1.trans s2) nD⟩
      rw [tk]
      exact (TrsAt.kt kt _ _ (TrsAt.kt (Kt.same s2) _ _ tz)).append (TrsAt.one (TrAt.kt kt _ _ hy'))
    have hT0 := hT
    cases t with
    | op z as =>
      rw [TrAt] at hT
      obtain ⟨a, rfl, sa⟩ := hT
      have go : GoodOp p n z as := by
        have := drs_at57 dr ht
        rw [Tr.dr] at this
        exact this
      have nz : z ≠ "loop" := fun e => w7_noloop (GoodOp.w7 go) e
      refine ⟨rfl, _, rfl, a, _, 0, .str z, rfl, rfl, sa, at0, rfl, _, rfl, iteN (fun e => nz (V.str.inj e)) ?_⟩
      exact ⟨_, rfl, fin H1 (.ref a) (Same.refl _) hT0⟩
    | loop kk b' =>
      rw [TrAt] at hT
      obtain ⟨a, g, ws, rfl, sa, sg, r2⟩ := hT
      obtain ⟨e', rfl, k01, dr2⟩ := drs_loop57 dr ht
      refine ⟨rfl, _, rfl, a, _, 0, .str "loop", rfl, rfl, sa, rfl, rfl, _, rfl, iteP rfl ?_⟩
      refine ⟨_, rfl, a, _, 2, .ref g, rfl, rfl, sa, rfl, .ref g, b', e', rfl, ⟨g, ws, rfl, sg, r2⟩, dr2, by omega, ?_, fun H2 v2 s2 hb2 => ?_⟩
      · have h3 := lns_len57 ht
        omega
      obtain ⟨g2, ws2, rfl, sg2, r3⟩ := hb2
      refine ⟨(by show 3 ≤ sizeLine; decide), fun t nt => ?_⟩
      have s3 := same_new (H := H2) (o := .tup [V.str "loop", V.int 1, V.ref g2]) nt
      refine fin _ (.ref t) (s2.trans s3) ?_
      rw [Tr.onc, TrAt]
      exact ⟨t, g2, ws2, rfl, SqT.of upd_same, (Kt.same s3).sq sg2, TrsAt.kt (Kt.same s3) _ _ r3⟩
  · rintro H1 ⟨zs, e1, tz, s1⟩
    rw [r.length, List.take_length] at tz
    refine ⟨D, zs, rfl, .inl ⟨SqL.of e1, fun t nt => ?_⟩⟩
    have s2 := same_new (H := H1) (o := .tup zs) nt
    exact q _ _ (s1.trans s2) ⟨t, zs, rfl, SqT.of upd_same, TrsAt.kt (Kt.same s2) _ _ tz⟩
theorem ok_once (M : Bl mg) (F : At K mg "_law_once" sOnce ["_law_program"]) {p n : Int} : ∀ d, Has P w K mg base d "_law_once" ["_law_program"] (spOnce K p n d)
  | 0 => Has.none F fun vs H Q E ⟨_, _, _, _, _, _, h, _⟩ => Nat.not_lt_zero _ h
  | d + 1 => ok_once1 M F (ok_once M F d)
end
end K58
set_option Elab.async false
set_option linter.all false
set_option maxRecDepth 100000
set_option pp.maxSteps 500
set_option pp.deepTerms.threshold 8
set_option pp.deepTerms false
namespace K58
open PySem PySem.Spec PyProof.Rows L2 Lj
section
variable {P : Program} {w : World} {K : PySem.W.Frag} {mg : Str → Option Value} {base : Heap}
theorem paired_get57 {α β : Type} {F : α → β → Prop} : ∀ {as : List α} {bs : List β} {i : Nat} {a : α}, Paired F as bs → as[i]? = some a → ∃ b, bs[i]? = some b ∧ F a b
  | _, _, i, a, .nil, e => by simp at e
  | _, _, 0, a, .cons h t, e => by
    cases e
    exact ⟨_, rfl, h⟩
  | _, _, i + 1, a, .cons h t, e => paired_get57 (i := i) t e
theorem paired_append57 {α β : Type} {F : α → β → Prop} : ∀ {as as' : List α} {bs bs' : List β}, Paired F as bs → Paired F as' bs' → Paired F (as ++ as') (bs ++ bs')
  | _, _, _, _, .nil, h => h
  | _, _, _, _, .cons h t, h' => .cons h (paired_append57 t h')
theorem op_catAK57 {X : Cx} {K : PySem.W.Frag} (h : X.K = K) : OpR X (binaryOp .Add) (rCatA K) := h ▸ op_catA
def PrAt (K : PySem.W.Frag) (H : Hp) (m : Nat) (f : Str × List Int) (v : V) : Prop := ∃ (a q : Addr) (x : V) (ps : List Int), v = .ref a ∧ SqT K H a [.ref q, x] ∧ SqT K H q (ps.map V.int) ∧ ps.length ≤ m ∧ TrAt K H (.op f.1 f.2) x ∧ f.1 ∈ W7 ∧ ps ≠ []
theorem PrAt.kt {H H' : Hp} {m m' : Nat} {f : Str × List Int} {v : V} (k : Kt H H') (l : m ≤ m') (h : PrAt K H m f v) : PrAt K H' m' f v := by
  obtain ⟨a, q, x, ps, rfl, h1, h2, h3, h4, h5⟩ := h
  exact ⟨a, q, x, ps, rfl, k.sq h1, k.sq h2, by omega, TrAt.kt k _ _ h4, h5⟩
theorem PrAt.dp {H : Hp} {m : Nat} {f : Str × List Int} {v : V} (h : PrAt K H m f v) : ∃ d, Dp K H v d ∧ PyData.canLay0 d = true ∧ PyData.depth d ≤ 3 := by
  obtain ⟨a, q, x, ps, rfl, h1, h2, h3, h4, hw, _⟩ := h
  rw [TrAt] at h4
  obtain ⟨b, rfl, h5⟩ := h4
  refine ⟨.tuple [.tuple (ps.map PyData.int), .tuple (.str f.1 :: f.2.map PyData.int)], .tup h1 (.cons (.tup h2 (ints_dp57 _)) (.cons (.tup h5 (.cons (.str _) (ints_dp57 _))) .nil)), ?_, ?_⟩
  · simp only [PyData.canLay0, PyData.canLayAll0, lay_ints, Bool.and_true, W7_ok hw]
  · have h1 := depth_ints ps
    have h2 := depth_ints f.2
    simp only [PyData.depth, PyData.depthAll, h1, h2]
    omega
abbrev PrsAt (K : PySem.W.Frag) (H : Hp) (m : Nat) (vs : List V) (fs : List (Str × List Int)) : Prop := Paired (fun v f => PrAt K H m f v) vs fs
theorem PrsAt.kt {H H' : Hp} {m m' : Nat} {fs : List (Str × List Int)} {vs : List V} (k : Kt H H') (l : m ≤ m') (h : PrsAt K H m vs fs) : PrsAt K H' m' vs fs := L2.Paired.mapP h fun _ _ p => PrAt.kt k l p
theorem PrsAt.dp {H : Hp} {m : Nat} {vs : List V} {fs : List (Str × List Int)} (h : PrsAt K H m vs fs) : ∃ ds, DpAll K H vs ds ∧ ds.length = vs.length ∧ PyData.canLayAll0 ds = true ∧ PyData.depthAll ds ≤ 3 := by
  induction h with
  | nil => exact ⟨[], .nil, rfl, rfl, Nat.zero_le _⟩
  | cons h t ih =>
    obtain ⟨d, d1, d2, d3⟩ := PrAt.dp h
    obtain ⟨ds, e1, e2, e3, e4⟩ := ih
    refine ⟨d :: ds, .cons d1 e1, by rw [List.length_cons, List.length_cons, e2], ?_, ?_⟩
    · rw [PyData.canLayAll0, d2, e3]
      rfl
    · rw [PyData.depthAll]
      omega
def spFlatC (K : PySem.W.Frag) (p n : Int) (d : Nat) : Sp := fun vs H Q _ => ∃ (v : V) (b : List Tr) (e : Nat), vs = [v] ∧ BodyAt K H b v ∧ drs (GoodOp p n) Rk1 b e ∧ e < d ∧ e ≤ 5 ∧ szN b ≤ 400 ∧ ∀ H' l zs, Same H H' → H l = none → H' l = some (.lst zs) → PrsAt K H' (2 * e + 1) zs (flt b) → Q (.ref l) H'
set_option maxHeartbeats 4000000 in
theorem ok_flatC1 (M : Bl mg) (F : At K mg "_law_flat" sFlat ["_law_program"]) {p n : Int} {d k : Nat} (h0 : Has P w K mg base k "_law_flat" ["_law_program"] (spFlatC K p n d)) : Has P w K mg base (k + 1) "_law_flat" ["_law_program"] (spFlatC K p n (d + 1)) := by
  obtain ⟨_, _, cFlat⟩ := h0
  refine Has.by F scFlat (fun vs H Q E h => ?_) (fun f cdv A out s H vs Q E hg hr h => ?_)
  · obtain ⟨_, _, _, rfl, _⟩ := h
    rfl
  obtain ⟨v, b, e, rfl, ⟨c, us, rfl, sq, r⟩, dr, ed, e5, sz, q⟩ := h
  have bl := len_szN b
  refine ⟨_, (pss_cons (ps_set (i := 1) scFlat.nd rfl (.inl rfl) (pe_lst pa_nil))
  (pss_cons (ps_for PassesOwn.never rfl (pi_enumT (by rfl) M.enumerate_ (pa_cons (pv 0) pa_nil)) (pg_tup rfl (pgs_cons (pg_name (i := 2) scFlat.nd rfl (.inr rfl)) (pgs_cons (pg_name (i := 3) scFlat.nd rfl (.inl rfl)) pgs_nil)))
    (pss_one (ps_if (pt_cmpR op_ne (pe_ix ix_tup (pv 3) pe_int (fun _ _ => rfl)) pe_str (nomark _))
    (pss_one (ps_expr (pe_bm PySem.F.plainAttrs_list PySem.F.slot_list_append PySem.F.type_list_append mt_append (pv 1) (pa_cons (pe_tup (pa_cons (pe_tup (pa_cons (pv 2) pa_nil)) (pa_cons (pv 3) pa_nil))) pa_nil))))
    (pss_cons (ps_set (i := 4) scFlat.nd rfl (.inl rfl) (pe_cal cFlat hg hr (by rfl) (pa_cons (pe_ix ix_tup (pv 3) pe_int (fun _ _ => rfl)) pa_nil)))
  (pss_one (ps_for PassesOwn.never rfl (pi_range1 (by rfl) M.range_ (pa_cons (pe_op op_mul (pe_ix ix_tup (pv 3) pe_int (fun _ _ => rfl)) (pe_callTy call_int1 (by rfl) M.int_ (by decide +kernel) (pa_cons (pe_cmpR (op_neD hr.units) (pv 4) (pe_lst pa_nil) (nomark _)) pa_nil))) pa_nil)) (pg_name (i := 5) scFlat.nd rfl (.inr rfl))
    (pss_one (ps_expr (pe_bm PySem.F.plainAttrs_list PySem.F.slot_list_extend PySem.F.type_list_extend mt_extend (pv 1) (pa_cons (pe_lc (own := [("_law_path", 6), ("_law_one", 7)]) (g := gTup K 2 (gCons (gName 6) (gCons (gName 7) gNil))) (by rfl) scFlat.nd (pi_list (pv 4)) (blkOk_by (own := [("_law_path", 6), ("_law_one", 7)]) (N := ["_law_program", "_law_found", "_law_at", "_law_op", "_law_inner", "_law_turn", "_law_path", "_law_one"]) (sc := defScope sFlat) (by decide +kernel)) (fun _ _ _ _ _ => (pg_tup rfl (pgs_cons (pg_name (i := 6) scFlat.nd rfl (.inl rfl)) (pgs_cons (pg_name (i := 7) scFlat.nd rfl (.inl rfl)) pgs_nil)))) (fun _ _ _ _ _ => pts_nil) (fun _ _ _ _ _ => (pe_tup (pa_cons (pe_op (op_catAK57 (K := K) rfl) (pe_tup (pa_cons (pv 2) (pa_cons (pv 5) pa_nil))) (pv 6)) (pa_cons (pv 7) pa_nil))))) pa_nil))))))))))
  (pss_one (ps_ret (pv 1))))), ?_⟩
  refine ⟨Nat.zero_le _, fun l nl => ?_⟩
  have s0 := same_new (H := H) (o := .lst []) nl
  refine ⟨_, rfl, c, us, rfl, (Kt.same s0).sq sq, ?_⟩
  refine for_it (walk_enumT (K := K) (a := c) (xs := us)) (fun i σ H' => ∃ y2 y3 y4 y5 zs, σ = [some (.ref c), some (.ref l), y2, y3, y4, y5, none, none] ∧ H' l = some (.lst zs) ∧ PrsAt K H' (2 * e + 1) zs (flt (b.take i)) ∧ Same H H') ⟨none, none, none, none, [], rfl, upd_same, .nil, s0⟩ (fun i σ H' _ ⟨_, _, _, _, _, _, _, _, s⟩ => (Kt.same s).sq sq) ?_ ?_
  · rintro i y σ H1 H2 hi ⟨y2, y3, y4, y5, zs, rfl, e1, pz, s1⟩ ⟨T, x1, x2, rfl, nT, rfl, ex1, ex2⟩
    cases ex1
    obtain ⟨t, ht, hT⟩ := r.get ex2
    have sT := same_new (o := .tup [V.int (i : Nat), x2]) nT
    refine ⟨T, _, rfl, SqT.of upd_same, rfl, _, _, rfl, _, _, rfl, rfl, ?_⟩
    have s2 := s1.trans sT
    have e2 := sT _ _ e1
    have pz2 := PrsAt.kt (Kt.same sT) (Nat.le_refl _) pz
    generalize upd H1 T (.tup [V.int (i : Nat), x2]) = H2 at s2 e2 pz2 ⊢
    have hT := TrAt.kt (Kt.same s2) t x2 hT
    have tk : flt (b.take (i + 1)) = flt (b.take i) ++ t.flt := by
      rw [List.take_add_one, ht]
      show flt (b.take i ++ [t]) = _
      rw [flt_append, flt, flt, List.append_nil]
    have zl : zs.length + t.flt.length ≤ 400 := by
      have h1 : zs.length = (flt (b.take i)).length := Paired.length pz
      have h2 := flt_len b
      have h3 : flt b = (flt (b.take i) ++ t.flt) ++ flt (b.drop (i + 1)) := by rw [← tk, ← flt_append, List.take_append_drop]
      rw [h3, List.length_append, List.length_append] at h2
      omega
    rw [tk]
    have hT0 := hT
    cases t with
    | op z as =>
      rw [TrAt] at hT
      obtain ⟨a, rfl, sa⟩ := hT
      have go : GoodOp p n z as := by
        have := drs_at57 dr ht
        rw [Tr.dr] at this
        exact this
      have nz : z ≠ "loop" := fun e => w7_noloop (GoodOp.w7 go) e
      refine ⟨_, rfl, a, _, 0, .str z, rfl, rfl, sa, at0, rfl, _, rfl, iteNN (fun e => nz (V.str.inj e)) ?_⟩
      refine ⟨_, rfl, .inl ⟨rfl, _, SqL.of e2⟩, _, rfl, (by show 1 ≤ sizeLine; decide), fun t1 n1 => ?_⟩
      have s3 := same_new (H := H2) (o := .tup [V.int (i : Nat)]) n1
      have h3 := upd_same (H := H2) (a := t1) (o := .tup [V.int (i : Nat)])
      generalize upd H2 t1 (.tup [V.int (i : Nat)]) = H3 at s3 h3 ⊢
      refine ⟨_, rfl, (by show 2 ≤ sizeLine; decide), fun t2 n2 => ?_⟩
      have s4 := same_new (H := H3) (o := .tup [V.ref t1, V.ref a]) n2
      have h4 := upd_same (H := H3) (a := t2) (o := .tup [V.ref t1, V.ref a])
      generalize upd H3 t2 (.tup [V.ref t1, V.ref a]) = H4 at s4 h4 ⊢
      have s24 := s3.trans s4
      have k5 : Kt H4 (upd H4 l (.lst (zs ++ [V.ref t2]))) := Kt.but But.upd (s24 _ _ e2)
      refine ⟨l, zs, _, rfl, rfl, s24 _ _ e2, by rw [sizeLine_eq]; rw [Tr.flt] at zl; show zs.length + 1 ≤ _; omega, _, _, _, _, _, rfl, upd_same, ?_, same_upd (s2.trans s24) nl⟩
      refine paired_snoc (PrsAt.kt k5 (Nat.le_refl _) (PrsAt.kt (Kt.same s24) (Nat.le_refl _) pz2)) ?_
      exact ⟨t2, t1, V.ref a, [(i : Int)], rfl, k5.sq (SqT.of h4), k5.sq (SqT.of (s4 _ _ h3)), by show 1 ≤ _; omega, TrAt.kt k5 _ _ (TrAt.kt (Kt.same s24) _ _ hT0), GoodOp.w7 go, List.cons_ne_nil _ _⟩
    | loop kk b' =>
      rw [TrAt] at hT
      obtain ⟨a, g, ws, rfl, sa, sg, r2⟩ := hT
      obtain ⟨e', rfl, k01, dr2⟩ := drs_loop57 dr ht
      refine ⟨_, rfl, a, _, 0, .str "loop", rfl, rfl, sa, rfl, rfl, _, rfl, ifNN rfl ?_⟩
      have szb := lns_len57 ht
      refine ⟨_, rfl, a, _, 2, .ref g, rfl, rfl, sa, rfl, .ref g, b', e', rfl, ⟨g, ws, rfl, sg, r2⟩, dr2, by omega, by omega, by omega, fun H3 li zs2 s3 nli hli pz3 => ?_⟩
      have k1 : kk = 1 := k01
      subst k1
      refine ⟨_, rfl, a, _, 1, .int 1, rfl, rfl, (Kt.same s3).sq sa, rfl, _, rfl, Nat.zero_le _, fun le nle => ?_⟩
      have s4 := same_new (H := H3) (o := .lst []) nle
      have hle := upd_same (H := H3) (a := le) (o := .lst [])
      obtain ⟨ds, dpa, dl, dc, dd⟩ := PrsAt.dp (PrsAt.kt (Kt.same s4) (Nat.le_refl _) pz3)
      generalize upd H3 le (.lst []) = H4 at s4 hle dpa ⊢
      refine ⟨.list ds, .list [], .lst (SqL.of (s4 _ _ hli)) dpa, .lst (SqL.of hle) .nil, ?_, rfl, ?_⟩
      · unfold SeqAt.shaped
        rw [PyData.canLay0, dc, PyData.depth, decide_eq_true (by omega)]
        rfl
      rw [eqv_nil]
      obtain ⟨mm, hmm, hc⟩ : ∃ mm : Nat, (1 : Int) * (if (!ds.isEmpty) = true then 1 else 0) = (mm : Int) ∧ (mm = 1 ∨ (mm = 0 ∧ flt b' = [])) := by
        have pl : zs2.length = (flt b').length := Paired.length pz3
        cases ds with
        | nil => exact ⟨0, rfl, .inr ⟨rfl, List.length_eq_zero_iff.mp (by rw [← pl, ← dl]; rfl)⟩⟩
        | cons d ds => exact ⟨1, rfl, .inl rfl⟩
      refine .inr ⟨_, rfl, 1, _, rfl, rfl, .inl ⟨by decide, by decide⟩, ?_⟩
      have s24 := s3.trans s4
      refine ⟨(mm : Int), congrArg (fun x => [V.int x]) hmm, by omega, by omega, ?_⟩
      refine for_range (lo := 0) (n := mm) (fun j σ H' => ∃ y5 zs', σ = [some (.ref c), some (.ref l), some (.int (i : Nat)), some (.ref a), some (.ref li), y5, none, none] ∧ H' l = some (.lst zs') ∧ PrsAt K H' (2 * (e' + 1) + 1) zs' (flt (b.take i) ++ (if j = 0 then [] else flt b')) ∧ Same H H' ∧ H' li = some (.lst zs2) ∧ PrsAt K H' (2 * e' + 1) zs2 (flt b')) ⟨_, zs, rfl, s24 _ _ e2, by rw [if_pos rfl, List.append_nil]; exact PrsAt.kt (Kt.same s24) (Nat.le_refl _) pz2, s2.trans s24, s4 _ _ hli, PrsAt.kt (Kt.same s4) (Nat.le_refl _) pz3⟩ ?_ ?_
      · rintro j σ H5 hj ⟨y6, zs', rfl, e5, pz5, s5, hli5, pzi⟩
        have j0 : j = 0 := by omega
        subst j0
        rw [if_pos rfl, List.append_nil] at pz5
        refine ⟨_, rfl, .inl ⟨rfl, _, SqL.of e5⟩, _, rfl, li, rfl, ⟨zs2, SqL.of hli5⟩, fun D nD => ?_⟩
        have kD := same_new (H := H5) (o := .lst []) nD
        refine lc_list (xs := zs2) (fun q H' => ∃ ys, H' D = some (.lst ys) ∧ PrsAt K H' (2 * (e' + 1) + 1) ys ((flt b').take q) ∧ Same H5 H') ⟨[], upd_same, .nil, kD⟩ (fun q H' _ ⟨_, _, _, s⟩ => SqL.of (s _ _ hli5)) ?_ ?_
        · rintro q y H6 hy ⟨ys, e6, p6, s6⟩
          obtain ⟨fq, hf, hp⟩ := paired_get57 pzi hy
          obtain ⟨a2, q2, x2, ps, rfl, g1, g2, g3, g4, g5⟩ := PrAt.kt (Kt.same s6) (Nat.le_refl _) hp
          refine ⟨a2, _, rfl, g1, rfl, _, _, rfl, _, _, rfl, rfl, ?_⟩
          refine ⟨rfl, _, rfl, _, rfl, (by show 2 ≤ sizeLine; decide), fun t1 n1 => ?_⟩
          have s7 := same_new (H := H6) (o := .tup [V.int (i : Nat), V.int (0 + (0 : Nat))]) n1
          have h7 := upd_same (H := H6) (a := t1) (o := .tup [V.int (i : Nat), V.int (0 + (0 : Nat))])
          generalize upd H6 t1 (.tup [V.int (i : Nat), V.int (0 + (0 : Nat))]) = H7 at s7 h7 ⊢
          have psl : ps.map V.int ≠ [] := by simpa using g5.2
          refine ⟨_, rfl, t1, q2, _, _, rfl, rfl, SqT.of h7, (Kt.same s7).sq g2, ?_, (fun e => by cases e), (fun _ e => absurd e psl), fun _ _ t3 n3 => ?_⟩
          · rw [List.length_map, sizeLine_eq]
            show 2 + ps.length ≤ _
            omega
          have s8 := same_new (H := H7) (o := .tup ([V.int (i : Nat), V.int (0 + (0 : Nat))] ++ ps.map V.int)) n3
          have h8 := upd_same (H := H7) (a := t3) (o := .tup ([V.int (i : Nat), V.int (0 + (0 : Nat))] ++ ps.map V.int))
          generalize upd H7 t3 (.tup ([V.int (i : Nat), V.int (0 + (0 : Nat))] ++ ps.map V.int)) = H8 at s8 h8 ⊢
          refine ⟨_, rfl, (by show 2 ≤ sizeLine; decide), fun t4 n4 => ?_⟩
          have s9 := same_new (H := H8) (o := .tup [V.ref t3, x2]) n4
          have h9 := upd_same (H := H8) (a := t4) (o := .tup [V.ref t3, x2])
          generalize upd H8 t4 (.tup [V.ref t3, x2]) = H9 at s9 h9 ⊢
          have s69 := (s7.trans s8).trans s9
          have yl : ys.length ≤ 400 := by
            have h1 : ys.length = ((flt b').take q).length := Paired.length p6
            have h2 := List.length_take_le q (flt b')
            rw [Tr.flt] at zl
            rw [List.length_take] at h1
            omega
          have kD2 : Kt H9 (upd H9 D (.lst (ys ++ [V.ref t4]))) := Kt.but But.upd (s69 _ _ e6)
          refine ⟨ys, s69 _ _ e6, by rw [sizeLine_eq]; omega, ys ++ [V.ref t4], upd_same, ?_, same_upd (s6.trans s69) nD⟩
          rw [List.take_add_one, hf]
          refine paired_snoc (PrsAt.kt kD2 (Nat.le_refl _) (PrsAt.kt (Kt.same s69) (Nat.le_refl _) p6)) ?_
          refine ⟨t4, t3, x2, (i : Int) :: (0 + ((0 : Nat) : Int)) :: ps, rfl, kD2.sq (SqT.of h9), kD2.sq ((Kt.same s9).sq (SqT.of h8)), ?_, TrAt.kt kD2 _ _ (TrAt.kt (Kt.same s69) _ _ g4), g5.1, List.cons_ne_nil _ _⟩
          rw [List.length_cons, List.length_cons]
          omega
        · rintro H6 ⟨ys, e6, p6, s6⟩
          have yl : ys.length = (flt b').length := by
            have h1 : ys.length = ((flt b').take zs2.length).length := Paired.length p6
            have h2 : zs2.length = (flt b').length := Paired.length pzi
            rw [h2, List.take_length] at h1
            exact h1
          have zl' : zs'.length = (flt (b.take i)).length := Paired.length pz5
          have zl0 : zs.length = (flt (b.take i)).length := Paired.length pz2
          rw [Tr.flt] at zl
          have p6 : PrsAt K H6 (2 * (e' + 1) + 1) ys (flt b') := by
            have h2 : zs2.length = (flt b').length := Paired.length pzi
            rw [h2, List.take_length] at p6
            exact p6
          have k7 : Kt H6 (upd H6 l (.lst (zs' ++ ys))) := Kt.but But.upd (s6 _ _ e5)
          have nli2 : l ≠ li := fun e => by
            rw [← e, e2] at nli
            cases nli
          refine ⟨l, D, _, _, rfl, rfl, s6 _ _ e5, e6, by rw [sizeLine_eq]; omega, _, _, rfl, upd_same, ?_, same_upd (s5.trans s6) nl, ?_, ?_⟩
          · rw [if_neg (by omega)]
            exact paired_append57 (PrsAt.kt k7 (Nat.le_refl _) (PrsAt.kt (Kt.same s6) (Nat.le_refl _) pz5)) (PrsAt.kt k7 (Nat.le_refl _) p6)
          · exact (upd_ne nli2.symm).trans (s6 _ _ hli5)
          · exact PrsAt.kt k7 (Nat.le_refl _) (PrsAt.kt (Kt.same s6) (Nat.le_refl _) pzi)
      · rintro σ H5 ⟨y6, zs', rfl, e5, pz5, s5, hli5, pzi⟩
        refine ⟨_, _, _, _, zs', rfl, e5, ?_, s5⟩
        rcases hc with rfl | ⟨rfl, h0⟩
        · exact pz5
        · rw [if_pos rfl] at pz5
          rw [Tr.flt, h0]
          exact pz5
  · rintro σ H1 ⟨y2, y3, y4, y5, zs, rfl, e1, pz, s1⟩
    rw [r.length, List.take_length] at pz
    exact ⟨_, rfl, q H1 l zs s1 nl e1 pz⟩
theorem ok_flatC (M : Bl mg) (F : At K mg "_law_flat" sFlat ["_law_program"]) {p n : Int} : ∀ d, Has P w K mg base d "_law_flat" ["_law_program"] (spFlatC K p n d)
  | 0 => Has.none F fun vs H Q E ⟨_, _, _, _, _, _, h, _⟩ => Nat.not_lt_zero _ h
  | d + 1 => ok_flatC1 M F (ok_flatC M F d)
end
end K58
set_option Elab.async false
set_option linter.all false
set_option maxRecDepth 100000
set_option pp.maxSteps 500
set_option pp.deepTerms.threshold 8
set_option pp.deepTerms false
namespace K58
open PySem PySem.Spec PyProof.Rows L2 Lj
theorem un1 {k : Nat} {A : Around} (hr : Room k A) : A.units + 1 < cLine := by
  have := hr.un
  omega
theorem far_okC : CMulW (10 ^ 60) (10 ^ 60) ∧ CMulW (10 ^ 60 * 10 ^ 60) (10 ^ 60) ∧ CMulW (10 ^ 60 * 10 ^ 60 * 10 ^ 60) (10 ^ 60) := by
  refine ⟨wide_mul (a := 1000) (b := 1000) ?_ ?_ ?_ ?_ ?_, wide_mul (a := 1000) (b := 1000) ?_ ?_ ?_ ?_ ?_, wide_mul (a := 1000) (b := 1000) ?_ ?_ ?_ ?_ ?_⟩ <;> decide +kernel
section
variable {P : Program} {w : World} {K : PySem.W.Frag} {mg : Str → Option Value} {base : Heap}
theorem ok_digits (M : Bl mg) (F : At K mg "_law_digits" sDigits ["_law_script", "_law_k"]) {k : Nat} : Has P w K mg base (k + 1) "_law_digits" ["_law_script", "_law_k"] (spPot K) := by
  refine Has.by F scDigits (fun vs H Q E h => ?_) (fun f cdv A out s H vs Q E hg hr h => ?_)
  · obtain ⟨a, ns, k, rfl, _⟩ := h
    rfl
  obtain ⟨a, ns, k, rfl, hS, h0, h1, q⟩ := h
  obtain ⟨f1, f2, f3⟩ := far_okC
  have fp : (0 : Int) < 10 ^ (60 : Int).toNat * 10 ^ (60 : Int).toNat * 10 ^ (60 : Int).toNat * 10 ^ (60 : Int).toNat := by decide +kernel
  refine ⟨_, (pss_cons (ps_set (i := 2) scDigits.nd rfl (.inl rfl) (pe_ifExp (pt_cmpR op_lt (pv 1) (pe_callB call_len_seq (by rfl) M.len_ (by decide +kernel) (pa_cons (pv 0) pa_nil)) (nomark _)) (pe_ix ix_list (pv 0) (pv 1) (fun _ _ => rfl)) (pe_op op_add (pe_op op_mul pe_int (pv 1)) pe_int)))
  (pss_cons (ps_set (i := 3) scDigits.nd rfl (.inl rfl) (pe_op op_mul (pe_op op_mod (pe_callB call_abs (by rfl) M.abs_ (by decide +kernel) (pa_cons (pv 2) pa_nil)) (pe_op op_mulW (pe_op op_mulW (pe_op op_mulW (pe_op op_pow pe_int pe_int) (pe_op op_pow pe_int pe_int)) (pe_op op_pow pe_int pe_int)) (pe_op op_pow pe_int pe_int))) (pe_callTy call_int1 (by rfl) M.int_ (by decide +kernel) (pa_cons (pe_cmpR op_ge (pe_callB call_abs (by rfl) M.abs_ (by decide +kernel) (pa_cons (pv 2) pa_nil)) (pe_op op_pow pe_int pe_int) (nomark _)) pa_nil))))
  (pss_one (ps_ret (pe_lst (pa_cons (pv 3) (pa_cons (pe_op op_mod (pe_op op_mul (pe_op op_add (pe_op op_add (pe_op op_mod (pv 2) pe_int) (pe_op op_mul (pe_op op_mul pe_int (pv 1)) (pv 1))) pe_int) pe_int) pe_int) (pa_cons pe_int pa_nil)))))))), ?_⟩
  refine ⟨_, rfl, _, rfl, a, _, rfl, .inl hS, _, _, rfl, rfl, _, rfl, ite2 (fun c => ?_) (fun c => ?_)⟩
  · have c' : k < (((ns.map V.int).length : Nat) : Int) := of_decide_eq_true c
    rw [List.length_map] at c'
    obtain ⟨cell, _, hv⟩ := at_int (ns := ns) h0 c'
    refine ⟨_, rfl, _, rfl, a, _, _, _, rfl, rfl, hS, hv, ?_⟩
    refine ⟨_, rfl, cell, rfl, 10, 60, rfl, rfl, ⟨by decide, by decide, by decide⟩, 10, 60, rfl, rfl, ⟨by decide, by decide, by decide⟩, _, _, rfl, rfl, f1, 10, 60, rfl, rfl, ⟨by decide, by decide, by decide⟩, _, _, rfl, rfl, f2, 10, 60, rfl, rfl, ⟨by decide, by decide, by decide⟩, _, _, rfl, rfl, f3, _, _, rfl, rfl, fp, ?_⟩
    refine ⟨_, rfl, cell, rfl, 10, 18, rfl, rfl, ⟨by decide, by decide, by decide⟩, _, _, rfl, rfl, .inr ⟨_, rfl, _, _, rfl, rfl, .inr (ind_bd _), ?_⟩⟩
    refine ⟨_, rfl, _, rfl, cell, _, rfl, rfl, (by show (0 : Int) < 2305843009213693951; decide), _, rfl, 104729, k, rfl, rfl, .inl ⟨by decide, by decide⟩, _, rfl, _, k, rfl, rfl, .inl ⟨by omega, by omega⟩, _, _, rfl, rfl, _, _, rfl, rfl, _, _, rfl, rfl, .inr ⟨by decide, by decide⟩, _, _, rfl, rfl, (by show (0 : Int) < 2305843009213693921; decide), (by show 3 ≤ sizeLine; decide), fun p np => ?_⟩
    exact q _ p (same_new np) np ⟨_, _, 0, upd_same, ind_nn (Int.emod_nonneg _ (Int.ne_of_gt fp)) _, Int.emod_nonneg _ (by decide), Int.lt_trans (Int.emod_lt_of_pos _ (by decide)) (by decide), Int.le_refl _, Int.le_refl _⟩
  · refine ⟨_, rfl, 7, k, rfl, rfl, .inl ⟨by decide, by decide⟩, _, _, rfl, rfl, ?_⟩
    show L2.gName 2 (V.int (7 * k + 2)) _ _ _
    generalize 7 * k + 2 = cell
    refine ⟨_, rfl, cell, rfl, 10, 60, rfl, rfl, ⟨by decide, by decide, by decide⟩, 10, 60, rfl, rfl, ⟨by decide, by decide, by decide⟩, _, _, rfl, rfl, f1, 10, 60, rfl, rfl, ⟨by decide, by decide, by decide⟩, _, _, rfl, rfl, f2, 10, 60, rfl, rfl, ⟨by decide, by decide, by decide⟩, _, _, rfl, rfl, f3, _, _, rfl, rfl, fp, ?_⟩
    refine ⟨_, rfl, cell, rfl, 10, 18, rfl, rfl, ⟨by decide, by decide, by decide⟩, _, _, rfl, rfl, .inr ⟨_, rfl, _, _, rfl, rfl, .inr (ind_bd _), ?_⟩⟩
    refine ⟨_, rfl, _, rfl, cell, _, rfl, rfl, (by show (0 : Int) < 2305843009213693951; decide), _, rfl, 104729, k, rfl, rfl, .inl ⟨by decide, by decide⟩, _, rfl, _, k, rfl, rfl, .inl ⟨by omega, by omega⟩, _, _, rfl, rfl, _, _, rfl, rfl, _, _, rfl, rfl, .inr ⟨by decide, by decide⟩, _, _, rfl, rfl, (by show (0 : Int) < 2305843009213693921; decide), (by show 3 ≤ sizeLine; decide), fun p np => ?_⟩
    exact q _ p (same_new np) np ⟨_, _, 0, upd_same, ind_nn (Int.emod_nonneg _ (Int.ne_of_gt fp)) _, Int.emod_nonneg _ (by decide), Int.lt_trans (Int.emod_lt_of_pos _ (by decide)) (by decide), Int.le_refl _, Int.le_refl _⟩
theorem ok_draw (F : At K mg "_law_draw" sDraw ["_law_pot", "_law_upto"]) {k : Nat} : Has P w K mg base (k + 1) "_law_draw" ["_law_pot", "_law_upto"] spTk := by
  refine Has.by F scDraw (fun vs H Q E h => ?_) (fun f cdv A out s H vs Q E hg hr h => ?_)
  · obtain ⟨_, _, _, rfl, _⟩ := h
    rfl
  obtain ⟨p, n, c, rfl, ⟨u, v, k, hp, u0, v0, v1, k0, k1⟩, c1, n0, n1, q⟩ := h
  refine ⟨_, (pss_cons (ps_if (pt_cmpR op_gt (pe_ix ix_list (pv 0) pe_int (fun _ _ => rfl)) pe_int (nomark _))
    (pss_cons (ps_set (i := 2) scDraw.nd rfl (.inl rfl) (pe_op op_mod (pe_ix ix_list (pv 0) pe_int (fun _ _ => rfl)) (pv 1)))
  (pss_cons (ps_asg (pe_op op_fdivW (pe_ix ix_list (pv 0) pe_int (fun _ _ => rfl)) (pv 1)) (pg_sub (pv 0) pe_int set_list))
  (pss_one (ps_ret (pv 2)))))
    pss_nil)
  (pss_cons (ps_asg (pe_op op_add (pe_ix ix_list (pv 0) pe_int (fun _ _ => rfl)) pe_int) (pg_sub (pv 0) pe_int set_list))
  (pss_cons (ps_set (i := 3) scDraw.nd rfl (.inl rfl) (pe_ix ix_list (pv 0) pe_int (fun _ _ => rfl)))
  (pss_cons (ps_set (i := 4) scDraw.nd rfl (.inl rfl) (pe_op op_mod (pe_op op_mul (pe_op op_add (pe_op op_add (pe_ix ix_list (pv 0) pe_int (fun _ _ => rfl)) (pe_op op_mul (pe_op op_mul pe_int (pv 3)) (pv 3))) pe_int) pe_int) pe_int))
  (pss_cons (ps_set (i := 4) scDraw.nd rfl (.inl rfl) (pe_op op_mod (pe_op op_mul (pv 4) (pe_op op_add (pe_op op_mod (pv 4) pe_int) (pe_op op_mul pe_int (pv 3)))) pe_int))
  (pss_one (ps_ret (pe_op op_mod (pe_op op_add (pe_op op_fdiv (pv 4) pe_int) (pe_op op_fdiv (pv 4) pe_int)) (pv 1))))))))), ?_⟩
  refine ⟨_, rfl, p, _, 0, .int u, rfl, rfl, SqL.of hp, rfl, _, _, rfl, rfl, _, rfl, ite2 (fun c => ?_) (fun c => ?_)⟩
  · have c' : 0 < u := of_decide_eq_true c
    refine ⟨_, rfl, p, _, 0, .int u, rfl, rfl, SqL.of hp, rfl, _, rfl, u, n, rfl, rfl, n0, ?_⟩
    refine ⟨_, rfl, p, _, 0, .int u, rfl, rfl, SqL.of hp, rfl, _, rfl, u, n, rfl, rfl, wide_div (b := 1000) n0 n1 (by decide) (by decide), _, rfl, p, _, 0, 0, rfl, rfl, hp, rfl, _, rfl, ?_⟩
    exact q _ _ (Int.emod_nonneg _ (by omega)) (Int.emod_lt_of_pos _ n0) ⟨_, v, k, upd_same, Int.ediv_nonneg (by omega) (by omega), v0, v1, k0, by omega⟩ But.upd
  · refine ⟨_, rfl, p, _, 2, .int k, rfl, rfl, SqL.of hp, rfl, k, 1, rfl, rfl, _, rfl, p, _, 2, 2, rfl, rfl, hp, rfl, ?_⟩
    generalize hG : upd H p _ = H1
    have hx : H1 p = some (.lst [.int u, .int v, .int (k + 1)]) := by rw [← hG]; exact upd_same
    have bx : But p H H1 := by rw [← hG]; exact But.upd
    refine ⟨_, rfl, p, _, 2, .int (k + 1), rfl, rfl, SqL.of hx, rfl, ?_⟩
    refine ⟨_, rfl, p, _, 1, .int v, rfl, rfl, SqL.of hx, rfl, _, rfl, 86243, k + 1, rfl, rfl, .inl ⟨by decide, by decide⟩, _, rfl, _, k + 1, rfl, rfl, .inr ⟨by omega, by omega⟩, _, _, rfl, rfl, _, _, rfl, rfl, _, _, rfl, rfl, .inr ⟨by decide, by decide⟩, _, _, rfl, rfl, (by show (0 : Int) < 2305843009213693921; decide), ?_⟩
    generalize hm : (v + 86243 * (k + 1) * (k + 1) + 17) * 48271 % 2305843009213693921 = mx
    have m0 : 0 ≤ mx := by rw [← hm]; exact Int.emod_nonneg _ (by decide)
    have m1 : mx < 2305843009213693921 := by rw [← hm]; exact Int.emod_lt_of_pos _ (by decide)
    refine ⟨_, rfl, _, rfl, _, 1000003, rfl, rfl, (by show (0 : Int) < 1000003; decide), _, rfl, 99989, k + 1, rfl, rfl, .inl ⟨by decide, by decide⟩, _, _, rfl, rfl, _, _, rfl, rfl, .inl ⟨by omega, by omega⟩, _, _, rfl, rfl, (by show (0 : Int) < 2305843009213693907; decide), ?_⟩
    refine ⟨_, rfl, _, 101, rfl, rfl, ⟨by decide, by decide⟩, _, rfl, _, 1000033, rfl, rfl, ⟨by decide, by decide⟩, _, _, rfl, rfl, _, rfl, _, n, rfl, rfl, n0, ?_⟩
    exact q _ _ (Int.emod_nonneg _ (by omega)) (Int.emod_lt_of_pos _ n0) ⟨u, v, k + 1, hx, u0, v0, v1, by omega, by omega⟩ bx
theorem ok_pick (M : Bl mg) (F : At K mg "_law_pick" sPick ["_law_pot", "_law_items"]) {k : Nat} (h : Has P w K mg base k "_law_draw" ["_law_pot", "_law_upto"] spTk) : Has P w K mg base (k + 1) "_law_pick" ["_law_pot", "_law_items"] (spO K) := by
  obtain ⟨_, _, cDraw⟩ := h
  refine Has.by F scPick (fun vs H Q E h => ?_) (fun f cdv A out s H vs Q E hg hr h => ?_)
  · obtain ⟨_, _, _, _, rfl, _⟩ := h
    rfl
  obtain ⟨p, r, xs, c, rfl, hU, c1, nr, hr2, hx, hl, q⟩ := h
  refine ⟨_, (pss_one (ps_ret (pe_ix ix_list (pv 1) (pe_cal cDraw hg hr (by rfl) (pa_cons (pv 0) (pa_cons (pe_callB call_len_seq (by rfl) M.len_ (by decide +kernel) (pa_cons (pv 1) pa_nil)) pa_nil))) (fun _ _ => rfl)))), ?_⟩
  have l0 : 0 < xs.length := List.length_pos_iff.mpr hx
  refine ⟨_, rfl, _, rfl, _, rfl, r, xs, rfl, .inl hr2, p, _, c, rfl, hU, c1, by omega, big_lt (by omega) (by omega), fun d H' d0 d1 hU' hb => ?_⟩
  obtain ⟨x, mx, hx2⟩ := at_any (xs := xs) d0 d1
  exact ⟨r, xs, d, x, rfl, rfl, hb.seq nr hr2, hx2, q x H' mx hU' hb⟩
/-- another register -/
def spOthC : Sp := fun vs H Q _ => ∃ (p : Addr) (n x : Int) (c : Nat), vs = [.ref p, .int n, .int x] ∧ Ur c H p ∧ c ≤ 1000000000 ∧ 2 ≤ n ∧ n ≤ 1000 ∧ 0 ≤ x ∧ x < n ∧
  ∀ (d : Int) H', 0 ≤ d → d < n → d ≠ x → Ur (c + 1) H' p → But p H H' → Q (.int d) H'
theorem ok_otherC (F : At K mg "_law_other" sOther ["_law_pot", "_law_n", "_law_x"]) {k : Nat} (h : Has P w K mg base k "_law_draw" ["_law_pot", "_law_upto"] spTk) : Has P w K mg base (k + 1) "_law_other" ["_law_pot", "_law_n", "_law_x"] spOthC := by
  obtain ⟨_, _, cDraw⟩ := h
  refine Has.by F scOther (fun vs H Q E h => ?_) (fun f cdv A out s H vs Q E hg hr h => ?_)
  · obtain ⟨_, _, _, _, rfl, _⟩ := h
    rfl
  obtain ⟨p, n, x, c, rfl, hU, c1, n2, n3, x0, x1, q⟩ := h
  refine ⟨_, (pss_one (ps_ret (pe_op op_mod (pe_op op_add (pe_op op_add (pv 2) pe_int) (pe_cal cDraw hg hr (by rfl) (pa_cons (pv 0) (pa_cons (pe_op op_sub (pv 1) pe_int) pa_nil)))) (pv 1)))), ?_⟩
  refine ⟨_, rfl, x, 1, rfl, rfl, _, rfl, _, rfl, n, 1, rfl, rfl, p, n - 1, c, rfl, hU, c1, by omega, big_lt (by omega) (by omega), fun d H' d0 d1 hU' hb => ?_⟩
  refine ⟨_, _, rfl, rfl, _, rfl, _, n, rfl, rfl, by show (0 : Int) < n; omega, ?_⟩
  refine q _ _ (Int.emod_nonneg _ (by omega)) (Int.emod_lt_of_pos _ (by omega)) (fun e => ?_) hU' hb
  have h1 := Int.emod_emod_of_dvd (x + 1 + d) (Int.dvd_refl n)
  by_cases c : x + 1 + d < n
  · rw [Int.emod_eq_of_lt (by omega) c] at e
    omega
  · have h2 : (x + 1 + d) % n = (x + 1 + d - n) % n := (Int.sub_emod_right _ _).symm
    rw [h2, Int.emod_eq_of_lt (by omega) (by omega)] at e
    omega
end
end K58
set_option Elab.async false
set_option linter.all false
set_option maxRecDepth 100000
set_option pp.maxSteps 500
set_option pp.deepTerms.threshold 8
set_option pp.deepTerms false
namespace K58
open PySem PySem.Spec PyProof.Rows L2 Lj
section
variable {P : Program} {w : World} {K : PySem.W.Frag} {mg : Str → Option Value} {base : Heap}
theorem tup_opC {H : Hp} {t : Addr} {u : Str} {as : List Int} (n : H t = none) : TrAt K (upd H t (.tup (.str u :: as.map V.int))) (.op u as) (.ref t) := by
  rw [TrAt]
  exact ⟨t, rfl, SqT.of upd_same⟩
def W8C : List Str := ["copy", "set", "add", "read", "scale", "copy", "swap", "write"]
def spInsC (K : PySem.W.Frag) : Sp := fun vs H Q _ => ∃ (pt : Addr) (p n : Int) (c : Nat), vs = [.ref pt, .int p, .int n] ∧ Ur c H pt ∧ c ≤ 900000000 ∧ 2 ≤ p ∧ p ≤ 10007 ∧ 1 ≤ n ∧ n ≤ 8 ∧
  ∀ (z : Str) (as : List Int) (t : Addr) (H' : Hp), GoodOp p n z as → Ur (c + 5) H' pt → But pt H H' → TrAt K H' (.op z as) (.ref t) → Q (.ref t) H'
set_option maxHeartbeats 4000000 in
theorem ok_insC (M : Bl mg) (F : At K mg "_law_instruction" sInstruction ["_law_pot", "_law_p", "_law_n"]) {k : Nat} (h1 : Has P w K mg base k "_law_draw" ["_law_pot", "_law_upto"] spTk) (h2 : Has P w K mg base k "_law_pick" ["_law_pot", "_law_items"] (spO K)) (h3 : Has P w K mg base k "_law_other" ["_law_pot", "_law_n", "_law_x"] spOthC) : Has P w K mg base (k + 1) "_law_instruction" ["_law_pot", "_law_p", "_law_n"] (spInsC K) := by
  obtain ⟨_, _, cDraw⟩ := h1
  obtain ⟨_, _, cPick⟩ := h2
  obtain ⟨_, _, cOther⟩ := h3
  refine Has.by F scInstruction (fun vs H Q E h => ?_) (fun f cdv A out s H vs Q E hg hr h => ?_)
  · obtain ⟨_, _, _, _, rfl, _⟩ := h
    rfl
  obtain ⟨pt, p, n, c, rfl, hU, c1, p2, p3, n1, n2, q⟩ := h
  refine ⟨_, (pss_cons (ps_par (i := 3) (j := 4) (by rfl) scInstruction.nd rfl rfl (by decide) rfl rfl (pa_cons (pe_cal cDraw hg hr (by rfl) (pa_cons (pv 0) (pa_cons (pv 2) pa_nil))) (pa_cons (pe_cal cPick hg hr (by rfl) (pa_cons (pv 0) (pa_cons (pe_lst (pa_cons pe_str (pa_cons pe_str (pa_cons pe_str (pa_cons pe_str (pa_cons pe_str (pa_cons pe_str (pa_cons pe_str (pa_cons pe_str pa_nil))))))))) pa_nil))) pa_nil)) (by rfl))
  (Evl.pss_cut (ps_if (PW.pt (pw_and (pt_cmpR op_eq (pv 2) pe_int (nomark _)) (pw_and1 (pt_cmpR op_in_seq (pv 4) (pe_tup (pa_cons pe_str (pa_cons pe_str (pa_cons pe_str pa_nil)))) (by rfl)))))
    (pss_one (ps_set (i := 4) scInstruction.nd rfl (.inl rfl) pe_str))
    pss_nil)
  (pss_cons (ps_if (pt_cmpR op_eq (pv 4) pe_str (nomark _))
    (pss_one (ps_ret (pe_tup (pa_cons pe_str (pa_cons (pv 3) (pa_cons (pe_cal cDraw hg hr (by rfl) (pa_cons (pv 0) (pa_cons (pv 1) pa_nil))) pa_nil))))))
    pss_nil)
  (pss_cons (ps_if (pt_cmpR op_eq (pv 4) pe_str (nomark _))
    (pss_one (ps_ret (pe_tup (pa_cons pe_str (pa_cons (pv 3) (pa_cons (pe_cal cOther hg hr (by rfl) (pa_cons (pv 0) (pa_cons (pv 2) (pa_cons (pv 3) pa_nil)))) pa_nil))))))
    pss_nil)
  (pss_cons (ps_if (pt_cmpR op_eq (pv 4) pe_str (nomark _))
    (pss_one (ps_ret (pe_tup (pa_cons pe_str (pa_cons (pv 3) (pa_cons (pe_cal cOther hg hr (by rfl) (pa_cons (pv 0) (pa_cons (pv 2) (pa_cons (pv 3) pa_nil)))) (pa_cons (pe_op op_add pe_int (pe_cal cDraw hg hr (by rfl) (pa_cons (pv 0) (pa_cons (pe_op op_sub (pv 1) pe_int) pa_nil)))) pa_nil)))))))
    pss_nil)
  (pss_cons (ps_if (pt_cmpR op_eq (pv 4) pe_str (nomark _))
    (pss_one (ps_ret (pe_tup (pa_cons pe_str (pa_cons (pv 3) (pa_cons (pe_cal cPick hg hr (by rfl) (pa_cons (pv 0) (pa_cons (pe_lst (pa_cons pe_int (pa_cons pe_int (pa_cons (pe_op op_sub (pv 1) pe_int) (pa_cons (pe_cal cDraw hg hr (by rfl) (pa_cons (pv 0) (pa_cons (pv 1) pa_nil))) pa_nil))))) pa_nil))) pa_nil))))))
    pss_nil)
  (pss_cons (ps_if (pt_cmpR op_eq (pv 4) pe_str (nomark _))
    (pss_one (ps_ret (pe_tup (pa_cons pe_str (pa_cons (pv 3) (pa_cons (pe_cal cOther hg hr (by rfl) (pa_cons (pv 0) (pa_cons (pv 2) (pa_cons (pv 3) pa_nil)))) pa_nil))))))
    pss_nil)
  (pss_one (ps_ret (pe_tup (pa_cons (pv 4) (pa_cons (pv 3) pa_nil)))))))))))), ?_⟩
  refine ⟨_, rfl, _, rfl, pt, n, c, rfl, hU, by omega, by omega, big_lt (by omega) (by omega), fun x H1 x0 x1 hU1 b1 => ?_⟩
  refine ⟨_, rfl, (by show 8 ≤ sizeLine; decide), fun l nl => ?_⟩
  have hl : upd H1 l (.lst (W8C.map V.str)) l = some (.lst (W8C.map V.str)) := upd_same
  have s2 := same_new (H := H1) (o := .lst (W8C.map V.str)) nl
  have lp := hU1.ne nl
  refine ⟨pt, l, W8C.map V.str, c + 1, rfl, hU1.same s2, by omega, lp, SqL.of hl, by decide, by decide, fun y H2 my hU2 b2 => ?_⟩
  obtain ⟨z, mz, rfl⟩ := List.mem_map.mp my
  have b02 : But pt H H2 := (b1.trans (But.same s2)).trans b2
  refine ⟨_, _, rfl, ?_⟩
  refine ⟨fun σ H' => ∃ z' : Str, σ = [some (.ref pt), some (.int p), some (.int n), some (.int x), some (.str z')] ∧ z' ∈ W8C ∧ (n = 1 → z' ≠ "copy" ∧ z' ≠ "add" ∧ z' ≠ "swap") ∧ Ur (c + 2) H' pt ∧ But pt H H', ?_, ?_⟩
  · refine ⟨_, rfl, rfl, _, rfl, ?_⟩
    by_cases e1 : n = 1
    · rw [decide_eq_true (by rw [e1])]
      refine iteT ?_
      refine ⟨_, rfl, (by show 3 ≤ sizeLine; decide), fun t nt => ?_⟩
      have s3 := same_new (H := H2) (o := .tup [V.str "copy", V.str "add", V.str "swap"]) nt
      refine ⟨t, _, rfl, .inr (SqT.of upd_same), rfl, rfl, _, rfl, ite2 (fun c => ?_) (fun c => ?_)⟩
      · exact ⟨"set", rfl, by decide, fun _ => by decide, hU2.same s3, b02.trans (But.same s3)⟩
      · exact ⟨z, rfl, mz, fun _ => ⟨fun e => c (by rw [e]; decide), fun e => c (by rw [e]; decide), fun e => c (by rw [e]; decide)⟩, hU2.same s3, b02.trans (But.same s3)⟩
    · rw [decide_eq_false fun e => e1 (V.int.inj e)]
      refine iteF (iteF ?_)
      exact ⟨z, rfl, mz, fun e => absurd e e1, hU2, b02⟩
  · rintro σ' H3 ⟨z', rfl, mz', nz, hU3, b3⟩
    simp only [W8C, List.mem_cons, List.not_mem_nil, or_false] at mz'
    by_cases e1 : z' = "set"
    · subst e1
      refine ⟨_, rfl, rfl, _, rfl, iteT ?_⟩
      refine ⟨_, rfl, _, rfl, _, rfl, pt, p, c + 2, rfl, hU3, by omega, by omega, big_lt (by omega) (by omega), fun v H4 v0 v1 hU4 b4 => ?_⟩
      refine ⟨(by show 3 ≤ sizeLine; decide), fun t nt => ?_⟩
      exact q "set" [x, v] t _ (.inl ⟨.inl rfl, x, v, rfl, x0, x1, v0, v1⟩) ((hU4.up (by omega)).same (same_new nt)) ((b3.trans b4).trans (But.new nt)) (tup_opC (u := "set") (as := [x, v]) nt)
    refine ⟨_, rfl, rfl, _, rfl, ?_⟩
    rw [decide_eq_false fun e => e1 (V.str.inj e)]
    refine iteF ?_
    by_cases e2 : z' = "copy"
    · subst e2
      obtain n2 : n ≠ 1 := fun e => (nz e).1 rfl
      refine ⟨_, rfl, rfl, _, rfl, iteT ?_⟩
      refine ⟨_, rfl, _, rfl, _, rfl, _, rfl, pt, n, x, c + 2, rfl, hU3, by omega, by omega, by omega, x0, x1, fun y H4 y0 y1 yx hU4 b4 => ?_⟩
      refine ⟨(by show 3 ≤ sizeLine; decide), fun t nt => ?_⟩
      exact q "copy" [x, y] t _ (.inr (.inr (.inl ⟨.inl rfl, x, y, rfl, x0, x1, y0, y1, fun e => yx e.symm⟩))) ((hU4.up (by omega)).same (same_new nt)) ((b3.trans b4).trans (But.new nt)) (tup_opC (u := "copy") (as := [x, y]) nt)
    refine ⟨_, rfl, rfl, _, rfl, ?_⟩
    rw [decide_eq_false fun e => e2 (V.str.inj e)]
    refine iteF ?_
    by_cases e3 : z' = "add"
    · subst e3
      obtain n2 : n ≠ 1 := fun e => (nz e).2.1 rfl
      refine ⟨_, rfl, rfl, _, rfl, iteT ?_⟩
      refine ⟨_, rfl, _, rfl, _, rfl, _, rfl, pt, n, x, c + 2, rfl, hU3, by omega, by omega, by omega, x0, x1, fun y H4 y0 y1 yx hU4 b4 => ?_⟩
      refine ⟨_, rfl, _, rfl, p, 1, rfl, rfl, pt, p - 1, c + 3, rfl, hU4, by omega, by omega, big_lt (by omega) (by omega), fun v H5 v0 v1 hU5 b5 => ?_⟩
      refine ⟨1, v, rfl, rfl, (by show 4 ≤ sizeLine; decide), fun t nt => ?_⟩
      exact q "add" [x, y, 1 + v] t _ (.inr (.inr (.inr ⟨rfl, x, y, 1 + v, rfl, x0, x1, y0, y1, (fun e => yx e.symm), by omega, by omega⟩))) ((hU5.up (by omega)).same (same_new nt)) (((b3.trans b4).trans b5).trans (But.new nt)) (tup_opC (u := "add") (as := [x, y, 1 + v]) nt)
    refine ⟨_, rfl, rfl, _, rfl, ?_⟩
    rw [decide_eq_false fun e => e3 (V.str.inj e)]
    refine iteF ?_
    by_cases e4 : z' = "scale"
    · subst e4
      refine ⟨_, rfl, rfl, _, rfl, iteT ?_⟩
      refine ⟨_, rfl, _, rfl, _, rfl, p, 1, rfl, rfl, _, rfl, _, rfl, pt, p, c + 2, rfl, hU3, by omega, by omega, big_lt (by omega) (by omega), fun v H4 v0 v1 hU4 b4 => ?_⟩
      refine ⟨(by show 4 ≤ sizeLine; decide), fun l2 nl2 => ?_⟩
      have hl2 := upd_same (H := H4) (a := l2) (o := .lst ([0, 1, p - 1, v].map V.int))
      have s4 := same_new (H := H4) (o := .lst ([0, 1, p - 1, v].map V.int)) nl2
      refine ⟨pt, l2, [0, 1, p - 1, v].map V.int, c + 3, rfl, hU4.same s4, by omega, hU4.ne nl2, SqL.of hl2, by simp, by simp, fun w H5 mw hU5 b5 => ?_⟩
      obtain ⟨u, mu, rfl⟩ := List.mem_map.mp mw
      have u01 : 0 ≤ u ∧ u < p := by
        simp only [List.mem_cons, List.not_mem_nil, or_false] at mu
        rcases mu with rfl | rfl | rfl | rfl <;> omega
      refine ⟨(by show 3 ≤ sizeLine; decide), fun t nt => ?_⟩
      exact q "scale" [x, u] t _ (.inl ⟨.inr rfl, x, u, rfl, x0, x1, u01.1, u01.2⟩) ((hU5.up (by omega)).same (same_new nt)) ((((b3.trans b4).trans (But.same s4)).trans b5).trans (But.new nt)) (tup_opC (u := "scale") (as := [x, u]) nt)
    refine ⟨_, rfl, rfl, _, rfl, ?_⟩
    rw [decide_eq_false fun e => e4 (V.str.inj e)]
    refine iteF ?_
    by_cases e5 : z' = "swap"
    · subst e5
      obtain n2 : n ≠ 1 := fun e => (nz e).2.2 rfl
      refine ⟨_, rfl, rfl, _, rfl, iteT ?_⟩
      refine ⟨_, rfl, _, rfl, _, rfl, _, rfl, pt, n, x, c + 2, rfl, hU3, by omega, by omega, by omega, x0, x1, fun y H4 y0 y1 yx hU4 b4 => ?_⟩
      refine ⟨(by show 3 ≤ sizeLine; decide), fun t nt => ?_⟩
      exact q "swap" [x, y] t _ (.inr (.inr (.inl ⟨.inr rfl, x, y, rfl, x0, x1, y0, y1, fun e => yx e.symm⟩))) ((hU4.up (by omega)).same (same_new nt)) ((b3.trans b4).trans (But.new nt)) (tup_opC (u := "swap") (as := [x, y]) nt)
    refine ⟨_, rfl, rfl, _, rfl, ?_⟩
    rw [decide_eq_false fun e => e5 (V.str.inj e)]
    refine iteF ?_
    have hz : z' = "read" ∨ z' = "write" := by
      rcases mz' with h | h | h | h | h | h | h | h
      · exact absurd h e2
      · exact absurd h e1
      · exact absurd h e3
      · exact .inl h
      · exact absurd h e4
      · exact absurd h e2
      · exact absurd h e5
      · exact .inr h
    refine ⟨_, rfl, _, rfl, (by show 2 ≤ sizeLine; decide), fun t nt => ?_⟩
    exact q z' [x] t _ (.inr (.inl ⟨hz, x, rfl, x0, x1⟩)) ((hU3.up (by omega)).same (same_new nt)) (b3.trans (But.new nt)) (tup_opC (u := z') (as := [x]) nt)
end
end K58
set_option Elab.async false
set_option linter.all false
set_option maxRecDepth 100000
set_option pp.maxSteps 500
set_option pp.deepTerms.threshold 8
set_option pp.deepTerms false
namespace K58
open PySem PySem.Spec PyProof.Rows L2 Lj
section
variable {P : Program} {w : World} {K : PySem.W.Frag} {mg : Str → Option Value} {base : Heap}
theorem op_in_seqK57 {X : Cx} {K : PySem.W.Frag} (h : X.K = K) : OpR X (compareOp .In) (rIn K false) := h ▸ op_in_seq
abbrev OpsC (K : PySem.W.Frag) (H : Hp) (vs : List V) (fs : List (Str × List Int)) : Prop := Paired (fun v f => TrAt K H (.op f.1 f.2) v ∧ f.1 ∈ W7) vs fs
theorem OpsC.kt {H H' : Hp} {fs : List (Str × List Int)} {vs : List V} (k : Kt H H') (h : OpsC K H vs fs) : OpsC K H' vs fs := L2.Paired.mapP h fun _ _ p => ⟨TrAt.kt k _ _ p.1, p.2⟩
theorem OpsC.dp {H : Hp} {vs : List V} {fs : List (Str × List Int)} (h : OpsC K H vs fs) : ∃ ds, DpAll K H vs ds ∧ ds.length = vs.length ∧ PyData.canLayAll0 ds = true ∧ PyData.depthAll ds ≤ 1 := by
  induction h with
  | nil => exact ⟨[], .nil, rfl, rfl, Nat.zero_le _⟩
  | @cons v f vs fs h t ih =>
    obtain ⟨h4, hw⟩ := h
    rw [TrAt] at h4
    obtain ⟨b, rfl, h5⟩ := h4
    obtain ⟨ds, e1, e2, e3, e4⟩ := ih
    refine ⟨.tuple (.str f.1 :: f.2.map PyData.int) :: ds, .cons (.tup h5 (.cons (.str _) (ints_dp57 _))) e1, by rw [List.length_cons, List.length_cons, e2], ?_, ?_⟩
    · simp only [PyData.canLay0, PyData.canLayAll0, lay_ints, Bool.and_true, W7_ok hw, e3]
    · have h2 := depth_ints f.2
      simp only [PyData.depth, PyData.depthAll, h2]
      omega
theorem but_updC {pt l : Addr} {H H' : Hp} {o : HO} (b : But pt H H') (nl : H l = none) : But pt H (upd H' l o) := fun x u n e => (upd_ne fun h => by rw [h, nl] at e; cases e).trans (b x u n e)
theorem wsz_big : ∀ {l : Nat}, l ≤ 4 → wsz l ≤ 25000
  | 0, _ => by decide
  | 1, _ => by decide
  | 2, _ => by decide
  | 3, _ => by decide
  | 4, _ => by decide
  | l + 5, h => by omega
def spNest (K : PySem.W.Frag) (d : Nat) : Sp := fun vs H Q _ => ∃ (pt : Addr) (p n : Int) (L lv c : Nat), vs = [.ref pt, .int p, .int n, .int (L : Int), .int (lv : Int)] ∧ lv < d ∧ lv ≤ 4 ∧ L ≤ 4 ∧ Ur c H pt ∧ c + wsz lv ≤ 800000000 ∧ 2 ≤ p ∧ p ≤ 10007 ∧ 1 ≤ n ∧ n ≤ 8 ∧
  ∀ (b : List Tr) (v : V) (m : Nat) (H' : Hp), m ≤ L → Nb p n b m lv → BodyAt K H' b v → Ur (c + wsz lv) H' pt → But pt H H' → Q v H'
set_option maxHeartbeats 4000000 in
theorem ok_nest1 (M : Bl mg) (F : At K mg "_law_nested_program" sNested_program ["_law_pot", "_law_p", "_law_n", "_law_length", "_law_level"]) {d k : Nat} (h0 : Has P w K mg base k "_law_nested_program" ["_law_pot", "_law_p", "_law_n", "_law_length", "_law_level"] (spNest K d)) (h1 : Has P w K mg base k "_law_draw" ["_law_pot", "_law_upto"] spTk) (h2 : Has P w K mg base k "_law_pick" ["_law_pot", "_law_items"] (spO K)) (h3 : Has P w K mg base k "_law_instruction" ["_law_pot", "_law_p", "_law_n"] (spInsC K)) (h4 : ∀ p n, Has P w K mg base k "_law_once" ["_law_program"] (spOnce K p n 5)) (h5 : ∀ p n, Has P w K mg base k "_law_flat" ["_law_program"] (spFlatC K p n 5)) : Has P w K mg base (k + 1) "_law_nested_program" ["_law_pot", "_law_p", "_law_n", "_law_length", "_law_level"] (spNest K (d + 1)) := by
  obtain ⟨_, _, cNested_program⟩ := h0
  obtain ⟨_, _, cDraw⟩ := h1
  obtain ⟨_, _, cPick⟩ := h2
  obtain ⟨_, _, cInstruction⟩ := h3
  refine Has.by F scNested_program (fun vs H Q E h => ?_) (fun f cdv A out s H vs Q E hg hr h => ?_)
  · obtain ⟨_, _, _, _, _, _, rfl, _⟩ := h
    rfl
  obtain ⟨pt, p, n, L, lv, c, rfl, ld, lv4, L4, hU, c1, p2, p3, n1, n2, q⟩ := h
  obtain ⟨_, _, cOnce⟩ := h4 p n
  obtain ⟨_, _, cFlat⟩ := h5 p n
  have w25 := wsz_big lv4
  have pw := piz_wsz (l := lv) L4
  refine ⟨_, (pss_cons (ps_set (i := 5) scNested_program.nd rfl (.inl rfl) (pe_lst pa_nil))
  (pss_cons (ps_for PassesOwn.never rfl (pi_range1 (by rfl) M.range_ (pa_cons (pe_cal cDraw hg hr (by rfl) (pa_cons (pv 0) (pa_cons (pe_op op_add (pv 3) pe_int) pa_nil))) pa_nil)) (pg_name (i := 6) scNested_program.nd rfl (.inl rfl))
    (pss_one (ps_if (PW.pt (pw_and (pt_cmpR op_gt (pv 4) pe_int (nomark _)) (pw_and1 (pt_cmpR op_eq (pe_cal cDraw hg hr (by rfl) (pa_cons (pv 0) (pa_cons pe_int pa_nil))) pe_int (nomark _)))))
    (pss_cons (ps_set (i := 7) scNested_program.nd rfl (.inl rfl) (pe_cal cNested_program hg hr (by rfl) (pa_cons (pv 0) (pa_cons (pv 1) (pa_cons (pv 2) (pa_cons pe_int (pa_cons (pe_op op_sub (pv 4) pe_int) pa_nil)))))))
  (pss_cons (ps_set (i := 8) scNested_program.nd rfl (.inl rfl) (pe_cal cPick hg hr (by rfl) (pa_cons (pv 0) (pa_cons (pe_lst (pa_cons pe_int (pa_cons pe_int (pa_cons pe_int (pa_cons pe_int (pa_cons (pe_op op_pow pe_int pe_int) (pa_cons (pe_cal cDraw hg hr (by rfl) (pa_cons (pv 0) (pa_cons (pe_op op_pow pe_int pe_int) pa_nil))) pa_nil))))))) pa_nil))))
  (pss_cons (ps_setLc (i := 9) (own := [("_law_path", 10), ("_law_op", 11)]) (g := gTup K 2 (gCons (gName 10) (gCons (gName 11) gNil))) (by rfl) scNested_program.nd rfl rfl (sw_true rfl rfl rfl (by decide +kernel)) (pi_list (pe_cal cFlat hg hr (by rfl) (pa_cons (pe_cal cOnce hg hr (by rfl) (pa_cons (pv 7) pa_nil)) pa_nil))) (blkOk_by (own := [("_law_path", 10), ("_law_op", 11)]) (N := ["_law_pot", "_law_p", "_law_n", "_law_length", "_law_level", "_law_found", "_law_at", "_law_body", "_law_many", "_law_touches", "_law_path", "_law_op"]) (sc := defScope sNested_program) (by decide +kernel)) (fun _ _ _ _ _ => (pg_tup rfl (pgs_cons (pg_name (i := 10) scNested_program.nd rfl (.inl rfl)) (pgs_cons (pg_name (i := 11) scNested_program.nd rfl (.inl rfl)) pgs_nil)))) (fun _ _ _ _ _ => (pts_one (pt_cmpR (op_in_seqK57 (K := K) rfl) (pe_ix (ix_tupK (K := K) rfl) (pv 11) pe_int (fun _ _ => rfl)) (pe_tup (pa_cons pe_str (pa_cons pe_str pa_nil))) (by rfl)))) (fun _ _ _ _ _ => (pv 11)))
  (pss_one (ps_expr (pe_bm PySem.F.plainAttrs_list PySem.F.slot_list_append PySem.F.type_list_append mt_append (pv 5) (pa_cons (pe_tup (pa_cons pe_str (pa_cons (pe_ifExp (pt_cmpR (op_eqD hr.units) (pv 9) (pe_lst pa_nil) (nomark _)) (pv 8) (pe_op op_mod (pv 8) pe_int)) (pa_cons (pv 7) pa_nil)))) pa_nil)))))))
    (pss_one (ps_expr (pe_bm PySem.F.plainAttrs_list PySem.F.slot_list_append PySem.F.type_list_append mt_append (pv 5) (pa_cons (pe_cal cInstruction hg hr (by rfl) (pa_cons (pv 0) (pa_cons (pv 1) (pa_cons (pv 2) pa_nil)))) pa_nil)))))))
  (pss_one (ps_ret (pe_callTy call_tuple_of (by rfl) M.tuple_ (by decide +kernel) (pa_cons (pv 5) pa_nil)))))), ?_⟩
  refine ⟨Nat.zero_le _, fun l nl => ?_⟩
  have s0 := same_new (H := H) (o := .lst []) nl
  have hl0 := upd_same (H := H) (a := l) (o := .lst [])
  have lpt : l ≠ pt := hU.ne nl
  generalize upd H l (.lst []) = H0 at s0 hl0 ⊢
  refine ⟨_, rfl, _, rfl, (L : Int), 1, rfl, rfl, pt, (L : Int) + 1, c, rfl, hU.same s0, by omega, by omega, big_lt (by omega) (by omega), fun m0 H1 d0 d1 hU1 b1 => ?_⟩
  obtain ⟨m, rfl⟩ : ∃ m : Nat, m0 = (m : Int) := ⟨m0.toNat, by omega⟩
  refine ⟨_, rfl, by omega, by omega, ?_⟩
  refine for_range (lo := 0) (n := m) (fun i σ H' => ∃ y6 y7 y8 y9 b zs, σ = [some (.ref pt), some (.int p), some (.int n), some (.int (L : Int)), some (.int (lv : Int)), some (.ref l), y6, y7, y8, y9, none, none] ∧ H' l = some (.lst zs) ∧ TrsAt K H' b zs ∧ Nb p n b i lv ∧ Ur (c + 1 + i * piz lv) H' pt ∧ But pt H H') ⟨none, none, none, none, [], [], rfl, b1 _ _ lpt hl0, TrsAt.nil, Nb.nil, hU1.up (by omega), (But.same s0).trans b1⟩ ?_ ?_
  · rintro i σ H2 hi ⟨y6, y7, y8, y9, b, zs, rfl, e2, tz, nb, hU2, b2⟩
    have ip : (i + 1) * piz lv ≤ L * piz lv := Nat.mul_le_mul_right _ (by omega)
    have ip2 : (i + 1) * piz lv = i * piz lv + piz lv := Nat.succ_mul _ _
    have p8 := piz_8 lv
    refine ⟨_, rfl, _, _, rfl, rfl, _, rfl, ?_⟩
    cases lv with
    | zero =>
      refine iteF (iteF ?_)
      have e3 := e2
      have tz3 := tz
      have b3 := But.refl pt H2
      have hU3 := hU2.up (show c + 1 + i * piz 0 ≤ c + 1 + i * piz 0 + 1 by omega)
      refine ⟨_, rfl, .inl ⟨rfl, _, SqL.of e3⟩, _, rfl, _, rfl, _, rfl, pt, p, n, c + 1 + i * piz 0 + 1, rfl, hU3, by omega, p2, p3, n1, n2, fun z as t H4 go hU4 b4 ht => ?_⟩
      have e4 := b4 _ _ lpt e3
      have zl : zs.length ≤ 4 := by
        have := tz.length
        have := nb.len
        omega
      have k34 := (hU3.kt b4)
      have k5 : Kt H4 (upd H4 l (.lst (zs ++ [V.ref t]))) := Kt.but But.upd e4
      refine ⟨l, zs, _, rfl, rfl, e4, by rw [sizeLine_eq]; omega, _, _, _, _, b ++ [.op z as], zs ++ [V.ref t], rfl, upd_same, ?_, nb.op go, ?_, but_updC ((b2.trans b3).trans b4) nl⟩
      · exact (TrsAt.kt k5 _ _ (TrsAt.kt k34 _ _ tz3)).append (TrsAt.one (TrAt.kt k5 _ _ ht))
      · exact Ur.but But.upd lpt.symm (hU4.up (by omega))
    | succ lv =>
      rw [decide_eq_true (by omega : (0 : Int) < ((lv + 1 : Nat) : Int))]
      refine iteT ?_
      have pe : piz (lv + 1) = wsz lv + 8 := rfl
      refine ⟨_, rfl, pt, 3, c + 1 + i * piz (lv + 1), rfl, hU2, by omega, by omega, big_lt (by omega) (by omega), fun r3 H3 r30 r31 hU3 b3 => ?_⟩
      have e3 := b3 _ _ lpt e2
      have tz3 := TrsAt.kt (hU2.kt b3) _ _ tz
      refine ⟨rfl, _, rfl, ite2 (fun _ => ?_) (fun _ => ?_)⟩
      · refine ⟨_, rfl, _, rfl, _, rfl, _, rfl, ((lv + 1 : Nat) : Int), 1, rfl, rfl, pt, p, n, 2, lv, c + 1 + i * piz (lv + 1) + 1, ?_, by omega, by omega, by omega, hU3, by omega, p2, p3, n1, n2, fun b' v' m' H4 m2 nb' hb' hU4 b4 => ?_⟩
        · show [V.ref pt, V.int p, V.int n, V.int 2, V.int (((lv + 1 : Nat) : Int) - 1)] = _
          rw [show (((lv + 1 : Nat) : Int) - 1) = (lv : Int) by omega]
          rfl
        have k34 := hU3.kt b4
        obtain ⟨g, ws, rfl, sg, tg⟩ := hb'
        refine ⟨_, rfl, 10, 18, rfl, rfl, ⟨by decide, by decide, by decide⟩, _, rfl, 10, 18, rfl, rfl, ⟨by decide, by decide, by decide⟩, pt, 10 ^ (18 : Int).toNat, _, rfl, hU4, by omega, by decide, big_lt (by decide) (by decide), fun r5 H5 r50 r51 hU5 b5 => ?_⟩
        refine ⟨(by show 6 ≤ sizeLine; decide), fun l2 nl2 => ?_⟩
        have s6 := same_new (H := H5) (o := .lst ([0, 1, 2, 5, 10 ^ (18 : Int).toNat, r5].map V.int)) nl2
        have hl2 := upd_same (H := H5) (a := l2) (o := .lst ([0, 1, 2, 5, 10 ^ (18 : Int).toNat, r5].map V.int))
        refine ⟨pt, l2, [0, 1, 2, 5, 10 ^ (18 : Int).toNat, r5].map V.int, _, rfl, hU5.same s6, by omega, hU5.ne nl2, SqL.of hl2, by simp, by simp, fun w6 H6 mw hU6 b6 => ?_⟩
        obtain ⟨kk, mk, rfl⟩ := List.mem_map.mp mw
        have k01 : 0 ≤ kk ∧ kk ≤ 10 ^ 18 := by
          have e18 : (10 : Int) ^ (18 : Int).toNat = 10 ^ 18 := rfl
          rw [e18] at mk r51
          simp only [List.mem_cons, List.not_mem_nil, or_false] at mk
          rcases mk with rfl | rfl | rfl | rfl | rfl | rfl <;> omega
        have b46 : But pt H4 H6 := (b5.trans (But.same s6)).trans b6
        have k46 := hU4.kt b46
        have e6 := b46 _ _ lpt (b4 _ _ lpt e3)
        have tz6 := TrsAt.kt k46 _ _ (TrsAt.kt k34 _ _ tz3)
        have sg6 := k46.sq sg
        have tg6 := TrsAt.kt k46 _ _ tg
        have b06 : But pt H H6 := ((b2.trans b3).trans b4).trans b46
        have szb' : szN b' ≤ 400 := by
          have h1 := nb'.sz
          have h2 : m' * zsz lv ≤ 2 * zsz lv := Nat.mul_le_mul_right _ m2
          have h3 : zsz lv ≤ 31 := by
            have : lv = 0 ∨ lv = 1 ∨ lv = 2 ∨ lv = 3 := by omega
            rcases this with e | e | e | e <;> subst e <;> decide
          omega
        refine ⟨_, rfl, .ref g, b', lv, rfl, ⟨g, ws, rfl, sg6, tg6⟩, nb'.dr, by omega, szb', fun H7 v7 s7 hb7 => ?_⟩
        refine ⟨v7, oncs b', lv, rfl, hb7, drs_onc b' lv nb'.dr, by omega, by omega, by rw [szN_oncs]; exact szb', fun H8 lf zf s8 nlf hlf pf => ?_⟩
        rw [flt_oncs] at pf
        refine ⟨lf, rfl, ⟨zf, SqL.of hlf⟩, fun D nD => ?_⟩
        refine lc_list (xs := zf) (fun q H' => ∃ ts fs, H' D = some (.lst ts) ∧ (ts = [] → ∀ x ∈ (flt b').take q, x.1 ≠ "read" ∧ x.1 ≠ "write") ∧ OpsC K H' ts fs ∧ ts.length ≤ q ∧ Same H8 H') ⟨[], [], upd_same, (fun _ x m => by rw [List.take_zero] at m; cases m), .nil, Nat.le_refl _, same_new nD⟩ (fun q H' _ ⟨_, _, _, _, _, _, s⟩ => SqL.of (s _ _ hlf)) ?_ ?_
        · rintro q y H9 hy ⟨ts, fs, e9, t9, oc9, tl9, s9⟩
          obtain ⟨fq, hf, hp⟩ := paired_get57 pf hy
          obtain ⟨a2, q2, x2, ps, rfl, g1, g2, g3, g4, g5⟩ := PrAt.kt (Kt.same s9) (Nat.le_refl _) hp
          have g40 := g4
          rw [TrAt] at g4
          obtain ⟨a3, rfl, g6⟩ := g4
          have ql : q < 400 := by
            have h1 := (List.getElem?_eq_some_iff.mp hf).1
            have h2 := flt_len b'
            omega
          refine ⟨a2, _, rfl, g1, rfl, _, _, rfl, _, _, rfl, rfl, rfl, ?_⟩
          refine ⟨_, rfl, a3, _, 0, .str fq.1, rfl, rfl, g6, at0, (by show 2 ≤ sizeLine; decide), fun t5 n5 => ?_⟩
          have s10 := same_new (H := H9) (o := .tup [V.str "read", V.str "write"]) n5
          refine ⟨t5, _, rfl, .inr (SqT.of upd_same), rfl, rfl, _, rfl, ite2 (fun ci => ?_) (fun ci => ?_)⟩
          · have kD := Kt.but (But.upd (o := .lst (ts ++ [V.ref a3]))) (s10 _ _ e9)
            refine ⟨_, rfl, ts, s10 _ _ e9, by rw [sizeLine_eq]; omega, ts ++ [V.ref a3], fs ++ [fq], upd_same, (fun e => absurd e (by simp)), ?_, by rw [List.length_append]; show ts.length + 1 ≤ _; omega, same_upd (s9.trans s10) nD⟩
            exact paired_snoc (OpsC.kt kD (OpsC.kt (Kt.same s10) oc9)) ⟨TrAt.kt kD _ _ (TrAt.kt (Kt.same s10) _ _ g40), g5.1⟩
          · refine ⟨ts, fs, s10 _ _ e9, fun et x mx => ?_, OpsC.kt (Kt.same s10) oc9, by omega, s9.trans s10⟩
            rw [List.take_add_one, hf] at mx
            rcases List.mem_append.mp mx with mx | mx
            · exact t9 et x mx
            · rw [List.mem_singleton.mp (show x ∈ [fq] from mx)]
              exact ⟨fun e => ci (by rw [e]; decide), fun e => ci (by rw [e]; decide)⟩
        · rintro H9 ⟨ts, fs, e9, t9, oc9, tl9, s9⟩
          have none_of : ts = [] → ∀ x ∈ flt b', x.1 ≠ "read" ∧ x.1 ≠ "write" := fun et x mx => by
            have h2 : zf.length = (flt b').length := Paired.length pf
            have := t9 et x
            rw [h2, List.take_length] at this
            exact this mx
          refine ⟨_, rfl, .inl ⟨rfl, _, SqL.of (s9 _ _ (s8 _ _ (s7 _ _ e6)))⟩, _, rfl, Nat.zero_le _, fun le nle => ?_⟩
          have s10 := same_new (H := H9) (o := .lst []) nle
          have hle := upd_same (H := H9) (a := le) (o := .lst [])
          obtain ⟨ds, dpa, dl, dc, dd⟩ := OpsC.dp (OpsC.kt (Kt.same s10) oc9)
          have e10 := s10 _ _ e9
          have e11 := s10 _ _ (s9 _ _ (s8 _ _ (s7 _ _ e6)))
          have s610 : Same H6 (upd H9 le (.lst [])) := ((s7.trans s8).trans s9).trans s10
          generalize upd H9 le (.lst []) = H10 at s610 hle dpa e10 e11 ⊢
          refine ⟨.list ds, .list [], .lst (SqL.of e10) dpa, .lst (SqL.of hle) .nil, ?_, rfl, ?_⟩
          · unfold SeqAt.shaped
            rw [PyData.canLay0, dc, PyData.depth, decide_eq_true (by omega)]
            rfl
          rw [eqv_nil]
          have zl : zs.length ≤ 4 := by
            have := tz.length
            have := nb.len
            omega
          by_cases et : ds.isEmpty = true
          · rw [et]
            have ets : ts = [] := by
              have := List.isEmpty_iff.mp et
              rw [this] at dl
              exact List.length_eq_zero_iff.mp dl.symm
            have hn := none_of ets
            refine ⟨_, rfl, iteT ?_⟩
            refine ⟨_, rfl, _, rfl, (by show 3 ≤ sizeLine; decide), fun t nt => ?_⟩
            have s11 := same_new (H := H10) (o := .tup [V.str "loop", V.int (kk), V.ref g]) nt
            have h11 := upd_same (H := H10) (a := t) (o := .tup [V.str "loop", V.int (kk), V.ref g])
            have s611 := s610.trans s11
            have e12 := s11 _ _ e11
            have kl := Kt.but (But.upd (o := .lst (zs ++ [V.ref t]))) e12
            refine ⟨l, zs, _, rfl, rfl, e12, by rw [sizeLine_eq]; omega, _, _, _, _, b ++ [.loop (kk) b'], zs ++ [.ref t], rfl, upd_same, ?_, nb.loop nb' m2 k01.1 k01.2 (.inr (cnts_zero b' fun x m => (hn x m).1)) (.inr (cnts_zero b' fun x m => (hn x m).2)), ?_, but_updC (b06.trans (But.same s611)) nl⟩
            · exact (TrsAt.kt kl _ _ (TrsAt.kt (Kt.same s611) _ _ tz6)).append (TrsAt.one (by rw [TrAt]; exact ⟨t, g, ws, rfl, kl.sq (SqT.of h11), kl.sq ((Kt.same s611).sq sg6), TrsAt.kt kl _ _ (TrsAt.kt (Kt.same s611) _ _ tg6)⟩))
            · exact Ur.but But.upd lpt.symm ((hU6.up (by omega)).same s611)
          · rw [Bool.not_eq_true] at et
            rw [et]
            have m30 : 0 ≤ kk % 3 := Int.emod_nonneg _ (by decide)
            have m31 : kk % 3 < 3 := Int.emod_lt_of_pos _ (by decide)
            refine ⟨_, rfl, iteF ?_⟩
            refine ⟨_, rfl, kk, 3, rfl, rfl, (by show (0 : Int) < 3; decide), _, rfl, (by show 3 ≤ sizeLine; decide), fun t nt => ?_⟩
            have s11 := same_new (H := H10) (o := .tup [V.str "loop", V.int (kk % 3), V.ref g]) nt
            have h11 := upd_same (H := H10) (a := t) (o := .tup [V.str "loop", V.int (kk % 3), V.ref g])
            have s611 := s610.trans s11
            have e12 := s11 _ _ e11
            have kl := Kt.but (But.upd (o := .lst (zs ++ [V.ref t]))) e12
            refine ⟨l, zs, _, rfl, rfl, e12, by rw [sizeLine_eq]; omega, _, _, _, _, b ++ [.loop (kk % 3) b'], zs ++ [.ref t], rfl, upd_same, ?_, nb.loop nb' m2 m30 (by omega) (.inl (by omega)) (.inl (by omega)), ?_, but_updC (b06.trans (But.same s611)) nl⟩
            · exact (TrsAt.kt kl _ _ (TrsAt.kt (Kt.same s611) _ _ tz6)).append (TrsAt.one (by rw [TrAt]; exact ⟨t, g, ws, rfl, kl.sq (SqT.of h11), kl.sq ((Kt.same s611).sq sg6), TrsAt.kt kl _ _ (TrsAt.kt (Kt.same s611) _ _ tg6)⟩))
            · exact Ur.but But.upd lpt.symm ((hU6.up (by omega)).same s611)
      · refine ⟨_, rfl, .inl ⟨rfl, _, SqL.of e3⟩, _, rfl, _, rfl, _, rfl, pt, p, n, c + 1 + i * piz (lv + 1) + 1, rfl, hU3, by omega, p2, p3, n1, n2, fun z as t H4 go hU4 b4 ht => ?_⟩
        have e4 := b4 _ _ lpt e3
        have zl : zs.length ≤ 4 := by
          have := tz.length
          have := nb.len
          omega
        have k34 := (hU3.kt b4)
        have k5 : Kt H4 (upd H4 l (.lst (zs ++ [V.ref t]))) := Kt.but But.upd e4
        refine ⟨l, zs, _, rfl, rfl, e4, by rw [sizeLine_eq]; omega, _, _, _, _, b ++ [.op z as], zs ++ [V.ref t], rfl, upd_same, ?_, nb.op go, ?_, but_updC ((b2.trans b3).trans b4) nl⟩
        · exact (TrsAt.kt k5 _ _ (TrsAt.kt k34 _ _ tz3)).append (TrsAt.one (TrAt.kt k5 _ _ ht))
        · exact Ur.but But.upd lpt.symm (hU4.up (by omega))
  · rintro σ H2 ⟨y6, y7, y8, y9, b, zs, rfl, e2, tz, nb, hU2, b2⟩
    have mp : m * piz lv ≤ L * piz lv := Nat.mul_le_mul_right _ (by omega)
    refine ⟨_, rfl, l, zs, rfl, .inl ⟨SqL.of e2, fun t nt => ?_⟩⟩
    have s3 := same_new (H := H2) (o := .tup zs) nt
    exact q b _ m _ (by omega) nb ⟨t, zs, rfl, SqT.of upd_same, TrsAt.kt (Kt.same s3) _ _ tz⟩ ((hU2.up (by omega)).same s3) (b2.trans (But.same s3))
theorem ok_nest (M : Bl mg) (F : At K mg "_law_nested_program" sNested_program ["_law_pot", "_law_p", "_law_n", "_law_length", "_law_level"]) (h1 : Has P w K mg base 5 "_law_draw" ["_law_pot", "_law_upto"] spTk) (h2 : Has P w K mg base 5 "_law_pick" ["_law_pot", "_law_items"] (spO K)) (h3 : Has P w K mg base 5 "_law_instruction" ["_law_pot", "_law_p", "_law_n"] (spInsC K)) (h4 : ∀ p n, Has P w K mg base 5 "_law_once" ["_law_program"] (spOnce K p n 5)) (h5 : ∀ p n, Has P w K mg base 5 "_law_flat" ["_law_program"] (spFlatC K p n 5)) : ∀ d, Has P w K mg base (5 + d) "_law_nested_program" ["_law_pot", "_law_p", "_law_n", "_law_length", "_law_level"] (spNest K d)
  | 0 => Has.none F fun vs H Q E ⟨_, _, _, _, _, _, _, h, _⟩ => Nat.not_lt_zero _ h
  | d + 1 => ok_nest1 M F (ok_nest M F h1 h2 h3 h4 h5 d) (h1.up (show 5 ≤ 5 + d by omega)) (h2.up (show 5 ≤ 5 + d by omega)) (h3.up (show 5 ≤ 5 + d by omega)) (fun p n => (h4 p n).up (show 5 ≤ 5 + d by omega)) (fun p n => (h5 p n).up (show 5 ≤ 5 + d by omega))
end
end K58
set_option Elab.async false
set_option linter.all false
set_option maxRecDepth 100000
set_option pp.maxSteps 500
set_option pp.deepTerms.threshold 8
set_option pp.deepTerms false
namespace K58
open PySem PySem.Spec PyProof.Rows L2 Lj
section
variable {P : Program} {w : World} {K : PySem.W.Frag} {mg : Str → Option Value} {base : Heap}
open TL
/-! ### the law's numbers -/
theorem un9 {k : Nat} {A : Around} (hr : Room k A) : A.units + 1 < cLine := by
  have := hr.units
  omega
set_option maxHeartbeats 4000000 in
theorem ok_numL (M : Bl mg) (F : At K mg "_law_number" sNumber ["_law_word"]) {k : Nat} : Has P w K mg base (k + 1) "_law_number" ["_law_word"] (spNoA 30) := by
  refine Has.by F scNumber (fun vs H Q E h => ?_) (fun f cdv A out s H vs Q E hg hr h => ?_)
  · obtain ⟨_, rfl, _⟩ := h
    rfl
  obtain ⟨x, rfl, wl, q⟩ := h
  refine ⟨_, (pss_cons (ps_if (PW.pt (pw_or (pt_cmpR op_eq (pv 0) pe_str (nomark _)) (pw_or (pt_cmpR op_gt (pe_callB call_len_str (by rfl) M.len_ (by decide +kernel) (pa_cons (pv 0) pa_nil)) pe_int (nomark _)) (pw_or1 (pt_not (pt_val (pe_callB (cr_all rfl) (by rfl) M.all_ (by decide +kernel) (pa_cons (pe_lc (own := [("_law_sign", 1)]) (g := gName 1) (by rfl) scNumber.nd (pi_str (pv 0)) (blkOk_by (own := [("_law_sign", 1)]) (N := ["_law_word", "_law_sign"]) (sc := defScope sNumber) (by decide +kernel)) (fun _ _ _ _ _ => (pg_name (i := 1) scNumber.nd rfl (.inl rfl))) (fun _ _ _ _ _ => pts_nil) (fun _ _ _ _ _ => (pe_cmpR op_inS (pv 1) pe_str (by rfl)))) pa_nil))))))))
    (pss_one (ps_ret pe_non))
    pss_nil)
  (pss_one (ps_ret (pe_ifExp (PW.pt (pw_and (pt_cmpR op_gt (pe_callB call_len_str (by rfl) M.len_ (by decide +kernel) (pa_cons (pv 0) pa_nil)) pe_int (nomark _)) (pw_and1 (pt_cmpR op_eq (pe_ix ix_str (pv 0) pe_int (fun _ _ => rfl)) pe_str (nomark _))))) pe_non (pe_callTy call_int_str (by rfl) M.int_ (by decide +kernel) (pa_cons (pv 0) pa_nil)))))), ?_⟩
  refine ⟨_, rfl, rfl, _, rfl, ?_⟩
  by_cases c1 : x = ""
  · refine iteP (congrArg V.str c1) ?_
    have := q H (Same.refl H)
    rw [nmK_no1 (.inl (tl_nil.mp c1))] at this
    exact this
  refine iteN (fun e => c1 (V.str.inj e)) ?_
  refine ⟨_, rfl, x, rfl, by rw [sizeLine_eq]; omega, _, _, rfl, rfl, _, rfl, ite2 (fun c => ?_) (fun c => ?_)⟩
  · have c : (30 : Int) < (x.length : Int) := of_decide_eq_true c
    have := q H (Same.refl H)
    rw [nmK_no1 (.inr (.inl (by rw [← len_tl]; omega)))] at this
    exact this
  have c : ¬ (30 : Int) < (x.length : Int) := fun h => c (decide_eq_true h)
  refine ⟨_, rfl, _, rfl, fun D nD => ?_⟩
  refine lc_it (walk_str (z := x)) (fun i H' => H' D = some (.lst ((((tl x).take i).map fun c => decide (c ∈ ("0123456789" : Str).cps.toList)).map V.bl)) ∧ Same H H') ⟨upd_same, same_new nD⟩ (fun _ _ _ _ => trivial) ?_ ?_
  · rintro i y H1 H2 hi ⟨e1, s1⟩ ⟨rfl, c, hc, rfl⟩
    have hc' : (tl x)[i]? = some c := by
      rw [← Array.getElem?_toList] at hc
      exact hc
    refine ⟨rfl, ?_⟩
    refine ⟨_, rfl, c, _, rfl, rfl, ?_⟩
    refine ⟨_, e1, ?_, ?_, same_upd s1 nD⟩
    · rw [List.length_map, List.length_map, List.length_take, sizeLine_eq, ← len_tl]
      omega
    · rw [upd_same, List.take_add_one, hc', List.map_append, List.map_append]
      rfl
  rintro H1 ⟨e1, s1⟩
  rw [show x.cps.size = (tl x).length from rfl, List.take_length] at e1
  refine ⟨D, _, rfl, SqL.of e1, ?_⟩
  rw [all_dig]
  by_cases c3 : (tl x).all isDig = true
  · rw [c3]
    refine ⟨_, rfl, iteF ?_⟩
    have nn : tl x ≠ [] := fun e => c1 (tl_nil.mpr e)
    obtain ⟨h0, r0, eh⟩ : ∃ h r, tl x = h :: r := by
      cases hn : tl x with
      | nil => exact absurd hn nn
      | cons a l => exact ⟨a, l, rfl⟩
    have hy : ¬ (tl x = [] ∨ 30 < (tl x).length ∨ ¬ (tl x).all isDig = true) := fun h => by
      rcases h with h | h | h
      · exact nn h
      · rw [← len_tl] at h
        omega
      · exact h c3
    have num : ¬ ((tl x).head? = some 48 ∧ tl x ≠ [48]) → ∃ n : Nat, PySem.intText? x = some (n : Int) ∧ nmK 30 x = some (n : Int) := fun hz => by
      obtain ⟨n, e1, e2, e3⟩ := nmK_yes hy hz
      have it : PySem.intText? (numS (n : Int)) = some (n : Int) := int_num (by rw [e3, ← len_tl]; omega)
      rw [← e2] at it
      exact ⟨n, it, e1⟩
    have ll := len_tl x
    refine ⟨_, rfl, x, rfl, by rw [sizeLine_eq]; omega, _, _, rfl, rfl, _, rfl, ?_⟩
    have fin : ¬ ((tl x).head? = some 48 ∧ tl x ≠ [48]) → ∃ n, nmK 30 x = some n ∧ PySem.intText? x = some n ∧ x.length ≤ 640 ∧ Q (.int n) H1 := fun hz => by
      obtain ⟨n, e1, e2⟩ := num hz
      have := q H1 s1
      rw [e2] at this
      exact ⟨n, e2, e1, by omega, this⟩
    refine ite2 (fun c4 => ?_) (fun c4 => ?_)
    · have c4 : (1 : Int) < (x.length : Int) := of_decide_eq_true c4
      refine ⟨_, rfl, x, 0, h0, rfl, rfl, by rw [sizeLine_eq]; omega, ?_, rfl, _, rfl, ?_⟩
      · have : x.cps.toList = h0 :: r0 := eh
        rw [this]
        exact atI_nat (j := 0) rfl
      have e4 : tl ("0" : Str) = [48] := by decide +kernel
      have e5 : tl (⟨#[h0]⟩ : Str) = [h0] := rfl
      by_cases c5 : h0 = 48
      · subst c5
        refine iteP (congrArg V.str (ext_tl (by rw [e4, e5]))) ?_
        have := q H1 s1
        rw [nmK_no2 ⟨by rw [eh]; rfl, fun e => by rw [e] at ll; have : x.length = 1 := ll; omega⟩] at this
        exact this
      · refine iteN (fun e => c5 ?_) ?_
        · have e2 := V.str.inj e
          have e3 := congrArg tl e2
          rw [e4, e5] at e3
          injection e3
        · obtain ⟨n, _, a, b, c⟩ := fin fun h => c5 (by have := h.1; rw [eh] at this; injection this)
          exact ⟨_, rfl, _, _, rfl, a, b, c⟩
    · have c4 : ¬ (1 : Int) < (x.length : Int) := fun h => c4 (decide_eq_true h)
      have e1 : r0 = [] := by
        rw [eh, List.length_cons] at ll
        exact List.length_eq_zero_iff.mp (by omega)
      obtain ⟨n, _, a, b, c⟩ := fin fun h => h.2 (by
        have h1 := h.1
        rw [eh] at h1
        have h1 : h0 = 48 := Option.some.inj h1
        rw [eh, e1, h1])
      exact ⟨_, rfl, _, _, rfl, a, b, c⟩
  · rw [Bool.eq_false_iff.mpr c3]
    refine ⟨_, rfl, iteT ?_⟩
    have := q H1 s1
    rw [nmK_no1 (.inr (.inr c3))] at this
    exact this
end
end K58
set_option Elab.async false
set_option linter.all false
set_option maxRecDepth 100000
set_option pp.maxSteps 500
set_option pp.deepTerms.threshold 8
set_option pp.deepTerms false
namespace K58
open PySem PySem.Spec PyProof.Rows L2 Lj
section
variable {P : Program} {w : World} {K : PySem.W.Frag} {mg : Str → Option Value} {base : Heap}
open TL
/-! ### the law's instruction of a line -/
def spLop (K : PySem.W.Frag) : Sp := fun vs H Q _ => ∃ (p n : Int) (x : Str), vs = [.int p, .int n, .str x] ∧ x.length ≤ 8000000 ∧ p ≤ 10007 ∧ n ≤ 8 ∧
  (wdTk p n 0 (Txt.split x " ") = none → ∀ H', Same H H' → Q .non H') ∧
  (∀ k, wdTk p n 0 (Txt.split x " ") = some (.opn k) → ∀ H' t, Same H H' → SqT K H' t [.str "open", .int k] → Q (.ref t) H') ∧
  (∀ z as, wdTk p n 0 (Txt.split x " ") = some (.op z as) → ∀ H' v, Same H H' → TrAt K H' (.op z as) v → Q v H')
theorem wd_open {p n : Int} {d : Nat} {a : Str} (h : d ≠ 4) : wdTk p n d [("loop" : Str), a, ("{" : Str)] = (match nmK 80 a with
    | some k => if k ≤ 10 ^ 18 then some (.opn k) else none
    | none => none) := by
  rw [wdTk, if_pos rfl, opnTk, if_pos ⟨rfl, h⟩] <;> rfl
theorem wd_shut {p n : Int} {d : Nat} {us : List Str} (h : ¬ ∃ a, us = [a, ("{" : Str)]) : wdTk p n d (("loop" : Str) :: us) = none := by
  rw [wdTk, if_pos rfl]
  by_cases c : us.length ≠ 2
  · exact opn_no3 c
  · match us, Decidable.not_not.mp c with
    | [a, b], _ => exact opn_noc fun e => h ⟨a, by rw [e.1]⟩
theorem wd_step {p n : Int} (p1 : p ≤ 10007) (n1 : n ≤ 8) {d : Nat} {z : Str} {us : List Str} (h : z ≠ "loop") : wdTk p n d (z :: us) = if stpOk p n z (us.map (nmK 30)) = true then some (.op z ((us.map (nmK 30)).filterMap id)) else none := by
  obtain ⟨a, b⟩ := nm_same p1 n1 h us
  rw [wdTk, if_neg h, a]
  by_cases c : stpOk p n z (us.map (nmK 30)) = true
  · rw [if_pos c, if_pos c, b c]
  · rw [if_neg c, if_neg c]
theorem inV_non : ∀ os : List (Option Int), inV .non (os.map onV) = decide (none ∈ os)
  | [] => by
    rw [decide_eq_false List.not_mem_nil]
    rfl
  | o :: os => by
    show (eqV (onV o) .non || inV .non (os.map onV)) = _
    rw [inV_non os]
    cases o with
    | none =>
      rw [decide_eq_true (List.mem_cons_self : none ∈ none :: os)]
      rfl
    | some i =>
      show (false || decide (none ∈ os)) = _
      rw [Bool.false_or]
      refine decide_eq_decide.mpr ⟨fun h => List.mem_cons_of_mem _ h, fun h => ?_⟩
      rcases List.mem_cons.mp h with h | h
      · cases h
      · exact h
theorem two_of : ∀ {as : List Int}, 2 ≤ as.length → ∃ a0 a1 r, as = a0 :: a1 :: r
  | a0 :: a1 :: r, _ => ⟨a0, a1, r, rfl⟩
  | [a], h => absurd h (by simp)
  | [], h => absurd h (by simp)
theorem ops_some : ∀ {os : List (Option Int)}, none ∉ os → ∃ as : List Int, os = as.map some
  | [], _ => ⟨[], rfl⟩
  | none :: os, h => absurd List.mem_cons_self h
  | some a :: os, h => by
    obtain ⟨as, rfl⟩ := ops_some (os := os) fun m => h (List.mem_cons_of_mem _ m)
    exact ⟨a :: as, rfl⟩
set_option maxHeartbeats 4000000 in
theorem ok_lineop (M : Bl mg) (F : At K mg "_law_line_op" sLine_op ["_law_p", "_law_n", "_law_line"]) {k : Nat} (h1 : Has P w K mg base k "_law_number" ["_law_word"] (spNoA 30)) : Has P w K mg base (k + 1) "_law_line_op" ["_law_p", "_law_n", "_law_line"] (spLop K) := by
  obtain ⟨_, _, cNumber⟩ := h1
  refine Has.by F scLine_op (fun vs H Q E h => ?_) (fun f cdv A out s H vs Q E hg hr h => ?_)
  · obtain ⟨_, _, _, rfl, _⟩ := h
    rfl
  obtain ⟨p, n, x, rfl, xl, p1, n1, qn, qo, qs⟩ := h
  refine ⟨_, (pss_cons (ps_set (i := 3) scLine_op.nd rfl (.inl rfl) (pe_split (pv 2) pe_str))
  (pss_cons (ps_if (PW.pt (pw_and (pt_cmpR op_eq (pe_callB call_len_seq (by rfl) M.len_ (by decide +kernel) (pa_cons (pv 3) pa_nil)) pe_int (nomark _)) (pw_and (pt_cmpR op_eq (pe_ix ix_list (pv 3) pe_int (fun _ _ => rfl)) pe_str (nomark _)) (pw_and1 (pt_cmpR op_eq (pe_ix ix_list (pv 3) pe_int (fun _ _ => rfl)) pe_str (nomark _))))))
    (pss_cons (ps_set (i := 4) scLine_op.nd rfl (.inl rfl) (pe_cal cNumber hg hr (by rfl) (pa_cons (pe_ix ix_list (pv 3) pe_int (fun _ _ => rfl)) pa_nil)))
  (pss_one (ps_ret (pe_ifExp (PW.pt (pw_and (pt_cmpR op_notN (pv 4) pe_non (nomark _)) (pw_and1 (pt_cmpR op_le (pv 4) (pe_op op_pow pe_int pe_int) (nomark _))))) (pe_tup (pa_cons pe_str (pa_cons (pv 4) pa_nil))) pe_non))))
    pss_nil)
  (pss_cons (ps_setLc (i := 5) (own := [("_law_word", 10)]) (g := gName 10) (by rfl) scLine_op.nd rfl rfl (sw_true rfl rfl rfl (by decide +kernel)) (pi_list (pe_slice sl_list (pv 3) (po_some pe_int) po_none)) (blkOk_by (own := [("_law_word", 10)]) (N := ["_law_p", "_law_n", "_law_line", "_law_words", "_law_many", "_law_numbers", "_law_forms_of", "_law_kinds", "_law_kind", "_law_number_here", "_law_word"]) (sc := defScope sLine_op) (by decide +kernel)) (fun _ _ _ _ _ => (pg_name (i := 10) scLine_op.nd rfl (.inl rfl))) (fun _ _ _ _ _ => pts_nil) (fun _ _ _ _ _ => (pe_cal cNumber hg hr (by rfl) (pa_cons (pv 10) pa_nil))))
  (pss_cons (ps_set (i := 6) scLine_op.nd rfl (.inl rfl) (pe_disp (pps_cons pe_str pe_str (pps_cons pe_str pe_str (pps_cons pe_str pe_str (pps_cons pe_str pe_str (pps_cons pe_str pe_str (pps_cons pe_str pe_str (pps_cons pe_str pe_str pps_nil))))))) (by decide) rfl (by simp) (by decide)))
  (pss_cons (ps_set (i := 7) scLine_op.nd rfl (.inl rfl) (pe_dget1 (un9 hr) (pv 6) (pe_ix ix_list (pv 3) pe_int (fun _ _ => rfl)) ⟨rfl, rfl, rfl, rfl⟩))
  (pss_cons (ps_if (PW.pt (pw_or (pt_cmpR op_isN (pv 7) pe_non (nomark _)) (pw_or (pt_cmpR op_ne (pe_callB call_len_str (by rfl) M.len_ (by decide +kernel) (pa_cons (pv 7) pa_nil)) (pe_callB call_len_seq (by rfl) M.len_ (by decide +kernel) (pa_cons (pv 5) pa_nil)) (nomark _)) (pw_or1 (pt_cmpR op_in_seq pe_non (pv 5) (by rfl))))))
    (pss_one (ps_ret pe_non))
    pss_nil)
  (pss_cons (ps_for PassesOwn.never rfl (pi_zipSL (by rfl) M.zip_ (pa_cons (pv 7) (pa_cons (pv 5) pa_nil))) (pg_tup rfl (pgs_cons (pg_name (i := 8) scLine_op.nd rfl (.inl rfl)) (pgs_cons (pg_name (i := 9) scLine_op.nd rfl (.inl rfl)) pgs_nil)))
    (pss_one (ps_if (PW.pt (pw_or (pt_cmpR op_ge (pv 9) (pe_ifExp (pt_cmpR op_eq (pv 8) pe_str (nomark _)) (pv 1) (pv 0)) (nomark _)) (pw_or1 (PW.pt (pw_and (pt_cmpR op_eq (pv 8) pe_str (nomark _)) (pw_and1 (pt_cmpR op_eq (pv 9) pe_int (nomark _))))))))
    (pss_one (ps_ret pe_non))
    pss_nil)))
  (pss_cons (ps_if (PW.pt (pw_and (pt_cmpR op_eq (pe_slice sl_str (pv 7) po_none (po_some pe_int)) pe_str (nomark _)) (pw_and1 (pt_cmpR op_eq (pe_ix ix_list (pv 5) pe_int (fun _ _ => rfl)) (pe_ix ix_list (pv 5) pe_int (fun _ _ => rfl)) (nomark _)))))
    (pss_one (ps_ret pe_non))
    pss_nil)
  (pss_one (ps_ret (pe_op op_catA (pe_tup (pa_cons (pe_ix ix_list (pv 3) pe_int (fun _ _ => rfl)) pa_nil)) (pe_callTy call_tuple_of (by rfl) M.tuple_ (by decide +kernel) (pa_cons (pv 5) pa_nil))))))))))))), ?_⟩
  refine ⟨_, rfl, ⟨_, rfl⟩, _, _, rfl, rfl, by decide +kernel, by rw [sizeLine_eq]; omega, fun lw nw => ?_⟩
  have sw := split_few (x := x) sp_tl sp_hk
  have sh := split_short (x := x) sp_tl sp_hk
  obtain ⟨z, us, ez⟩ : ∃ z us, Txt.split x " " = z :: us := by
    cases h : Txt.split x " " with
    | nil => exact absurd h (split_some sp_tl sp_hk)
    | cons z us => exact ⟨z, us, rfl⟩
  rw [ez] at qn qo qs sw sh
  rw [ez]
  rw [List.length_cons] at sw
  have usm : ∀ u ∈ us, u.length ≤ 10000000 := fun u mu => by
    have := sh u (List.mem_cons_of_mem _ mu)
    omega
  have s1 := same_new (H := H) (o := .lst ((z :: us).map V.str)) nw
  have hw := upd_same (H := H) (a := lw) (o := .lst ((z :: us).map V.str))
  generalize upd H lw (.lst ((z :: us).map V.str)) = H1 at s1 hw ⊢
  have hw : H1 lw = some (.lst (V.str z :: us.map V.str)) := hw
  refine ⟨_, rfl, lw, _, rfl, .inl (SqL.of hw), rfl, _, rfl, ?_⟩
  by_cases ho : z = "loop" ∧ ∃ a, us = [a, ("{" : Str)]
  · obtain ⟨rfl, a, rfl⟩ := ho
    rw [wd_open (by decide)] at qn qo
    refine iteP rfl ?_
    refine ⟨_, rfl, lw, _, 0, .str "loop", rfl, rfl, SqL.of hw, atI_zero57 _ _, rfl, _, rfl, iteP rfl ?_⟩
    refine ⟨_, rfl, lw, _, 2, .str "{", rfl, rfl, SqL.of hw, rfl, rfl, _, rfl, iteP rfl ?_⟩
    refine ⟨_, rfl, lw, _, 1, .str a, rfl, rfl, SqL.of hw, rfl, a, rfl, usm a List.mem_cons_self, fun H2 s2 => ?_⟩
    have s12 := s1.trans s2
    refine ⟨_, rfl, rfl, _, rfl, ?_⟩
    cases hk : nmK 30 a with
    | none =>
      have h80 : (match nmK 80 a with
          | some k => if k ≤ 10 ^ 18 then some (Tk.opn k) else none
          | none => none) = none := by
        cases h8 : nmK 80 a with
        | none => rfl
        | some k =>
          show (if k ≤ 10 ^ 18 then some (Tk.opn k) else none) = none
          by_cases c : k ≤ 10 ^ 18
          · rw [nmK_small h8 c] at hk
            cases hk
          · rw [if_neg c]
      refine iteF ?_
      exact qn h80 H2 s12
    | some k =>
      refine iteT ?_
      have h8 := nmK_mono (k := 80) (by decide) hk
      rw [h8] at qn qo
      have qn : (if k ≤ 10 ^ 18 then some (Tk.opn k) else none) = none → ∀ H', Same H H' → Q .non H' := qn
      have qo : ∀ j, (if k ≤ 10 ^ 18 then some (Tk.opn k) else none) = some (.opn j) → ∀ H' t, Same H H' → SqT K H' t [.str "open", .int j] → Q (.ref t) H' := qo
      refine ⟨_, rfl, _, _, rfl, rfl, ⟨by decide, by decide, by decide +kernel⟩, _, _, rfl, rfl, _, rfl, ?_⟩
      by_cases c : k ≤ 10 ^ 18
      · refine iteP c ?_
        refine ⟨_, rfl, by rw [sizeLine_eq]; exact Nat.le_of_ble_eq_true rfl, fun t nt => ?_⟩
        rw [if_pos c] at qo
        exact qo k rfl _ t (s12.trans (same_new nt)) (SqT.of upd_same)
      · refine iteN c ?_
        rw [if_neg c] at qn
        exact qn rfl H2 s12
  · refine andIf ?_ fun e1 G => ?_
    · refine iteF ?_
      have nst : z = "loop" → wdTk p n 0 (z :: us) = none := fun e => by
        subst e
        exact wd_shut fun h => ho ⟨rfl, h⟩
      have stp := fun (nl : z ≠ "loop") => wd_step (d := 0) p1 n1 (us := us) nl
      refine ⟨_, rfl, 1, rfl, lw, _, rfl, SqL.of hw, fun tl0 ntl => ?_⟩
      rw [cut_tail]
      have s2 := same_new (H := H1) (o := .lst (us.map V.str)) ntl
      have htl := upd_same (H := H1) (a := tl0) (o := .lst (us.map V.str))
      generalize upd H1 tl0 (.lst (us.map V.str)) = H2 at s2 htl ⊢
      refine ⟨tl0, rfl, ⟨_, SqL.of htl⟩, fun D nD => ?_⟩
      refine lc_list (xs := us.map V.str) (fun i H' => H' D = some (.lst (((us.take i).map (nmK 30)).map onV)) ∧ Same H2 H') ⟨upd_same, same_new nD⟩ (fun i H' _ ⟨_, s⟩ => SqL.of (s _ _ htl)) ?_ ?_
      · rintro i y H3 hy ⟨e1, s3⟩
        rw [List.getElem?_map] at hy
        obtain ⟨a, ea, rfl⟩ := Option.map_eq_some_iff.mp hy
        refine ⟨rfl, _, rfl, a, rfl, usm a (List.mem_of_getElem? ea), fun H4 s4 => ?_⟩
        refine ⟨_, s4 _ _ e1, by rw [List.length_map, List.length_map, List.length_take, sizeLine_eq]; omega, ?_, same_upd (s3.trans s4) nD⟩
        rw [upd_same, List.take_add_one, ea, List.map_append, List.map_append]
        rfl
      rintro H3 ⟨e3, s3⟩
      rw [List.length_map, List.take_length] at e3
      generalize eos : us.map (nmK 30) = os at e3 stp ⊢
      have osl : os.length = us.length := by rw [← eos, List.length_map]
      have osn : ∀ a : Int, some a ∈ os → 0 ≤ a := fun a ma => by
        rw [← eos] at ma
        obtain ⟨u, _, hu⟩ := List.mem_map.mp ma
        exact nmK_nn hu
      have s13 : Same H H3 := s1.trans (s2.trans s3)
      have hw3 := s3 _ _ (s2 _ _ hw)
      refine fun dp nd => ⟨upd_same, frmD, rfl, by decide, ?_⟩
      rw [frmD_merge, upd_upd]
      have s4 := same_new (H := H3) (o := .dK frmD) nd
      have hd := upd_same (H := H3) (a := dp) (o := .dK frmD)
      generalize upd H3 dp (.dK frmD) = H4 at s4 hd ⊢
      have s14 := s13.trans s4
      refine ⟨_, rfl, dp, rfl, .inl ⟨frmD, .inl hd⟩, ?_⟩
      refine ⟨_, rfl, lw, _, 0, .str z, rfl, rfl, SqL.of (s4 _ _ hw3), atI_zero57 _ _, valV frmD (Sum.inr z), DGet.k (k := Sum.inr z) hd, ?_⟩
      rw [frm_val]
      have e4 := s4 _ _ e3
      cases hf : frmL z with
      | none =>
        refine ⟨_, rfl, rfl, _, rfl, iteP rfl ?_⟩
        refine qn ?_ H4 s14
        by_cases nl : z = "loop"
        · exact nst nl
        rw [stp nl]
        rw [if_neg fun h => ?_]
        obtain ⟨as, _, g⟩ := stp_good nl h
        obtain ⟨l, e, _⟩ := good_frm g
        rw [hf] at e
        cases e
      | some l =>
      have nl : z ≠ "loop" := fun e => by
        rw [e, show frmL "loop" = none by decide] at hf
        cases hf
      have stp := stp nl
      obtain ⟨l3, l128⟩ := frm_len hf
      have ml : (mkS l).length = l.length := rfl
      refine ⟨_, rfl, rfl, _, rfl, iteN (fun e => nomatch e) ?_⟩
      refine ⟨_, rfl, mkS l, rfl, by rw [ml, sizeLine_eq]; omega, ?_⟩
      refine ⟨_, rfl, D, _, rfl, .inl (SqL.of e4), rfl, _, rfl, ?_⟩
      rw [ml, List.length_map]
      by_cases c1 : ¬ l.length = os.length
      · refine iteNN (fun e => c1 (Int.ofNat.inj (V.int.inj e))) ?_
        refine qn ?_ H4 s14
        rw [stp, if_neg fun h => ?_]
        obtain ⟨as, ea, g⟩ := stp_good nl h
        obtain ⟨l', e', hl', _⟩ := good_frm g
        rw [hf] at e'
        cases e'
        rw [ea, List.length_map] at c1
        exact c1 hl'.symm
      have c1 := Decidable.not_not.mp c1
      refine ifNN (congrArg (fun m : Nat => V.int (m : Int)) c1) ?_
      refine ⟨_, rfl, D, _, rfl, .inl (SqL.of e4), rfl, ?_, _, rfl, ?_⟩
      · rw [List.all_eq_true]
        intro v mv
        obtain ⟨o, _, rfl⟩ := List.mem_map.mp mv
        cases o <;> rfl
      rw [if_neg Bool.false_ne_true, inV_non]
      by_cases c2 : none ∈ os
      · rw [decide_eq_true c2]
        refine iteT ?_
        refine qn ?_ H4 s14
        rw [stp, if_neg fun h => ?_]
        obtain ⟨as, ea, g⟩ := stp_good nl h
        rw [ea] at c2
        obtain ⟨_, _, e⟩ := List.mem_map.mp c2
        cases e
      rw [decide_eq_false c2]
      refine iteF ?_
      obtain ⟨as, rfl⟩ := ops_some c2
      rw [fm_some] at stp
      rw [List.length_map] at c1 osl
      rw [onV_some] at e4
      have nn : ∀ a ∈ as, 0 ≤ a := fun a ma => osn a (List.mem_map.mpr ⟨a, ma, rfl⟩)
      have no : (∀ g : GoodOp p n z as, False) → ∀ H', Same H4 H' → Q .non H' := fun hg H' s => by
        refine qn ?_ H' (s14.trans s)
        rw [stp, if_neg fun h => ?_]
        obtain ⟨bs, eb, g⟩ := stp_good nl h
        have : as = bs := by
          have := congrArg (fun l => l.filterMap id) eb
          rwa [fm_some, fm_some] at this
        subst this
        exact hg g
      have noP : ∀ (j c : Nat) (a : Int), l[j]? = some c → as[j]? = some a → ¬ psC p n c a → ∀ H', Same H4 H' → Q .non H' := fun j c a h1 h2 h3 => no fun g => by
        obtain ⟨l', e', _, h4, _⟩ := good_frm g
        rw [hf] at e'
        cases e'
        exact h3 (h4 j c a h1 h2)
      have a128 : (mkS l).cps.all (· < 128) = true := by
        rw [← Array.all_toList]
        show l.all (fun c => decide (c < 128)) = true
        rw [List.all_eq_true]
        exact fun c mc => decide_eq_true (l128 c mc)
      refine ⟨_, rfl, _, rfl, mkS l, D, _, rfl, a128, SqL.of e4, ?_⟩
      refine for_it walk_F (fun i σ H' => ∃ y8 y9, σ = [some (.int p), some (.int n), some (.str x), some (.ref lw), none, some (.ref D), some (.ref dp), some (.str (mkS l)), y8, y9, none] ∧ Same H4 H' ∧ ∀ (j c : Nat) (a : Int), j < i → l[j]? = some c → as[j]? = some a → psC p n c a) ⟨_, _, rfl, Same.refl _, fun j c a h => absurd h (Nat.not_lt_zero _)⟩ (fun i σ H' _ ⟨_, _, _, h, _⟩ => ⟨trivial, SqL.of (h _ _ e4)⟩) ?_ ?_
      · rintro i y σ H5 H6 hi ⟨y8, y9, rfl, s5, ps⟩ ⟨T, x1, x2, rfl, nT, rfl, e1, e2⟩
        have e1 : ((l.map fun c => V.str ⟨#[c]⟩))[i]? = some x1 := e1
        have e2 : (as.map V.int)[i]? = some x2 := e2
        rw [List.getElem?_map] at e1 e2
        obtain ⟨c, hc, rfl⟩ := Option.map_eq_some_iff.mp e1
        obtain ⟨a, ha, rfl⟩ := Option.map_eq_some_iff.mp e2
        have s6 := s5.trans (same_new (o := .tup [V.str ⟨#[c]⟩, V.int a]) nT)
        refine ⟨T, _, rfl, SqT.of upd_same, rfl, _, _, rfl, _, _, rfl, rfl, ?_⟩
        generalize upd H5 T (.tup [V.str ⟨#[c]⟩, V.int a]) = H6 at s6 ⊢
        have nxt : psC p n c a → ∀ (j e : Nat) (b : Int), j < i + 1 → l[j]? = some e → as[j]? = some b → psC p n e b := fun h j e b hj he hb => by
          by_cases hh : j = i
          · subst hh
            rw [hc] at he
            rw [ha] at hb
            cases he
            cases hb
            exact h
          · exact ps j e b (by omega) he hb
        have bad := fun h => noP i c a hc ha h H6 s6
        have e114 : ∀ {d : Nat} {u : Str}, u = mkS [d] → (V.str ⟨#[c]⟩ = V.str u) = (c = d) := fun {d u} hu => by
          subst hu
          exact propext ⟨fun h => by
            have h : mkS [c] = mkS [d] := V.str.inj h
            rwa [mkS_one] at h, fun h => by rw [h]; rfl⟩
        have er : ("r" : Str) = mkS [114] := by decide +kernel
        have ed : ("d" : Str) = mkS [100] := by decide +kernel
        refine ⟨_, rfl, _, rfl, rfl, _, rfl, ?_⟩
        by_cases c3 : c = 114
        · refine iteP (by rw [e114 er]; exact c3) ?_
          refine ⟨_, rfl, _, _, rfl, rfl, _, rfl, ite2 (fun h => ?_) (fun h => ?_)⟩
          · have h := of_decide_eq_true h
            exact bad fun g => by
              have := g.1
              rw [if_pos c3] at this
              omega
          · have h : ¬ (a ≥ n) := fun e => h (decide_eq_true e)
            refine ⟨_, rfl, rfl, _, rfl, iteN (by rw [e114 ed]; omega) ?_⟩
            refine iteF ?_
            exact ⟨_, _, rfl, s6, nxt ⟨by rw [if_pos c3]; omega, by omega⟩⟩
        · refine iteN (by rw [e114 er]; exact c3) ?_
          refine ⟨_, rfl, _, _, rfl, rfl, _, rfl, ite2 (fun h => ?_) (fun h => ?_)⟩
          · have h := of_decide_eq_true h
            exact bad fun g => by
              have := g.1
              rw [if_neg c3] at this
              omega
          · have h : ¬ (a ≥ p) := fun e => h (decide_eq_true e)
            refine ⟨_, rfl, rfl, _, rfl, ?_⟩
            by_cases c4 : c = 100
            · refine iteP (by rw [e114 ed]; exact c4) ?_
              refine ⟨_, rfl, rfl, _, rfl, ?_⟩
              by_cases c5 : a = 0
              · refine iteP (congrArg V.int c5) ?_
                exact bad fun g => g.2 ⟨c4, c5⟩
              · refine iteN (fun e => c5 (V.int.inj e)) ?_
                exact ⟨_, _, rfl, s6, nxt ⟨by rw [if_neg c3]; omega, fun e => c5 e.2⟩⟩
            · refine iteN (by rw [e114 ed]; exact c4) ?_
              refine iteF ?_
              exact ⟨_, _, rfl, s6, nxt ⟨by rw [if_neg c3]; omega, fun e => c4 e.1⟩⟩
      · rintro σ H5 ⟨y8, y9, rfl, s5, ps⟩
        have ps : ∀ (j c : Nat) (a : Int), l[j]? = some c → as[j]? = some a → psC p n c a := fun j c a h1 h2 => by
          refine ps j c a ?_ h1 h2
          have h3 := (List.getElem?_eq_some_iff.mp h1).1
          show j < min (sgn (mkS l)).length (as.map V.int).length
          rw [sgn_len, List.length_map]
          show j < min l.length as.length
          omega
        have e5 := s5 _ _ e4
        refine ⟨_, rfl, 2, rfl, mkS l, rfl, by rw [ml, sizeLine_eq]; omega, rfl, _, rfl, ?_⟩
        have et : tl (cutS (mkS l) none (some 2)) = l.take 2 := by
          have h : tl (cutS (mkS l) none (some 2)) = ((tl (mkS l)).drop 0).take (HT.sIx (mkS l).length (mkS l).length (some ((2 : Nat) : Int)) - 0) := rfl
          rw [h, List.drop_zero, HT.sIx_nat, ml]
          show l.take (min 2 l.length - 0) = _
          rw [Nat.sub_zero]
          by_cases h2 : 2 ≤ l.length
          · rw [Nat.min_eq_left h2]
          · rw [Nat.min_eq_right (by omega), List.take_length, List.take_of_length_le (by omega)]
        have err : tl ("rr" : Str) = [114, 114] := by decide +kernel
        have erl : (cutS (mkS l) none (some 2) = "rr") = (l.take 2 = [114, 114]) := propext ⟨fun h => by rw [← et, h, err], fun h => ext_tl (by rw [et, h, err])⟩
        by_cases hg : GoodOp p n z as
        · refine andIf ?_ fun ec G => ?_
          · refine iteF ?_
            have hst : stpOk p n z (as.map some) = true := by
              show okI p n 0 (.tuple (.str z :: (as.map some).map oD)) = true
              rw [List.map_map]
              exact okI_good hg
            rw [if_pos hst] at stp
            refine ⟨_, rfl, lw, _, 0, .str z, rfl, rfl, SqL.of (s5 _ _ (s4 _ _ hw3)), atI_zero57 _ _, (by show 1 ≤ sizeLine; decide), fun t1 nt1 => ?_⟩
            have s6 := same_new (H := H5) (o := .tup [V.str z]) nt1
            have h61 := upd_same (H := H5) (a := t1) (o := .tup [V.str z])
            generalize upd H5 t1 (.tup [V.str z]) = H6 at s6 h61 ⊢
            refine ⟨_, rfl, D, _, rfl, .inl ⟨SqL.of (s6 _ _ e5), fun t2 nt2 => ?_⟩⟩
            have s7 := same_new (H := H6) (o := .tup (as.map V.int)) nt2
            have h72 := upd_same (H := H6) (a := t2) (o := .tup (as.map V.int))
            generalize upd H6 t2 (.tup (as.map V.int)) = H7 at s7 h72 ⊢
            refine ⟨t1, t2, _, _, rfl, rfl, SqT.of (s7 _ _ h61), SqT.of h72, ?_, fun h => absurd h (List.cons_ne_nil _ _), fun _ h => absurd (List.map_eq_nil_iff.mp h) (good_ints hg).2.1, fun _ _ t3 nt3 => ?_⟩
            · rw [List.length_map, sizeLine_eq]
              show 1 + as.length ≤ _
              omega
            have s8 := same_new (H := H7) (o := .tup ([V.str z] ++ as.map V.int)) nt3
            refine qs z as stp _ _ (((s14.trans s5).trans (s6.trans s7)).trans s8) ?_
            rw [TrAt]
            exact ⟨t3, rfl, SqT.of upd_same⟩
          · have ec : cutS (mkS l) none (some 2) = "rr" := V.str.inj (of_decide_eq_true ec)
            rw [erl] at ec
            have l2 : 2 ≤ l.length := by
              have := congrArg List.length ec
              rw [List.length_take] at this
              simp at this
              omega
            obtain ⟨a0, a1, r, ea⟩ := two_of (as := as) (by omega)
            obtain ⟨l', e', _, _, h4⟩ := good_frm hg
            rw [hf] at e'
            cases e'
            have ne : a0 ≠ a1 := fun e => h4 ⟨ec, by rw [ea, e]; rfl⟩
            rw [ea] at e5
            refine ⟨_, rfl, D, _, 0, .int a0, rfl, rfl, SqL.of e5, atI_zero57 _ _, _, rfl, D, _, 1, .int a1, rfl, rfl, SqL.of e5, atI_nat (j := 1) rfl, rfl, _, rfl, ?_⟩
            exact iteN (fun e => ne (V.int.inj e)) G
        · have hc : l.take 2 = [114, 114] ∧ as[0]? = as[1]? := Decidable.byContradiction fun hr => hg (frm_good hf c1.symm ps nn hr)
          refine iteP (congrArg V.str (by rw [erl]; exact hc.1)) ?_
          have l2 : 2 ≤ l.length := by
            have := congrArg List.length hc.1
            rw [List.length_take] at this
            simp at this
            omega
          obtain ⟨a0, a1, r, ea⟩ := two_of (as := as) (by omega)
          rw [ea] at hc e5
          have hc := Option.some.inj (show some a0 = some a1 from hc.2)
          refine ⟨_, rfl, D, _, 0, .int a0, rfl, rfl, SqL.of e5, atI_zero57 _ _, _, rfl, D, _, 1, .int a1, rfl, rfl, SqL.of e5, atI_nat (j := 1) rfl, rfl, _, rfl, ?_⟩
          refine iteP (congrArg V.int hc) ?_
          exact no (fun g => hg g) H5 s5
    · refine ⟨_, rfl, lw, _, 0, .str z, rfl, rfl, SqL.of hw, atI_zero57 _ _, rfl, _, rfl, ?_⟩
      by_cases e2 : z = "loop"
      · refine iteP (congrArg V.str e2) ?_
        have el : us.length = 2 := by
          have e := V.int.inj (of_decide_eq_true e1)
          rw [List.length_cons, List.length_map] at e
          omega
        obtain ⟨a1, a2, rfl⟩ : ∃ a b, us = [a, b] := by
          match us, el with
          | [a, b], _ => exact ⟨a, b, rfl⟩
        refine ⟨_, rfl, lw, _, 2, .str a2, rfl, rfl, SqL.of hw, rfl, rfl, _, rfl, ?_⟩
        refine iteN (fun e3 => ?_) G
        exact absurd ⟨e2, a1, by rw [V.str.inj e3]⟩ ho
      · exact iteN (fun e => e2 (V.str.inj e)) G
end
end K58
set_option Elab.async false
set_option linter.all false
set_option maxRecDepth 100000
set_option pp.maxSteps 500
set_option pp.deepTerms.threshold 8
set_option pp.deepTerms false
namespace K58
open PySem PySem.Spec PyProof.Rows L2 Lj
section
variable {P : Program} {w : World} {K : PySem.W.Frag} {mg : Str → Option Value} {base : Heap}
open TL
/-! ### the law's own reader -/
def StkAt (K : PySem.W.Frag) (H0 H : Hp) (lb lr : Addr) (S : RdS) : Prop := Same H0 H ∧ H0 lb = none ∧ H0 lr = none ∧ lb ≠ lr ∧ ∃ bs, H lb = some (.lst (bs.map V.ref)) ∧ H lr = some (.lst (S.2.reverse.map V.int)) ∧ bs.Nodup ∧ BdsAt K H0 H lb lr bs S.1.reverse
theorem StkAt.same {H0 H H' : Hp} {lb lr : Addr} {S : RdS} (h : StkAt K H0 H lb lr S) (s : Same H H') : StkAt K H0 H' lb lr S := by
  obtain ⟨s0, b0, r0, ne, bs, h1, h2, nd, bd⟩ := h
  exact ⟨s0.trans s, b0, r0, ne, bs, s _ _ h1, s _ _ h2, nd, bd.same s⟩
theorem StkAt.op {H0 H : Hp} {lb lr : Addr} {b : List Tr} {B : List (List Tr)} {R : List Int} (h : StkAt K H0 H lb lr (b :: B, R)) : ∃ (bs : List Addr) (a : Addr) (us : List V), H lb = some (.lst (bs.map V.ref ++ [V.ref a])) ∧ H a = some (.lst us) ∧ us.length = b.length ∧
    ∀ v z as, TrAt K H (.op z as) v → StkAt K H0 (upd H a (.lst (us ++ [v]))) lb lr ((b ++ [.op z as]) :: B, R) := by
  obtain ⟨s0, b0, r0, nbr, bs, hb, hr', nd, bd⟩ := h
  have er : (b :: B).reverse = B.reverse ++ [b] := List.reverse_cons
  rw [show ((b :: B, R) : RdS).1 = b :: B from rfl, er] at bd
  obtain ⟨bs', a, rfl, bd', a0, nab, nar, us, ha, tr⟩ := paired_last bd
  have ul := tr.length
  rw [List.map_append] at hb
  refine ⟨bs', a, us, hb, ha, ul, fun v z as hv => ?_⟩
  have nas : a ∉ bs' := fun m => by
    obtain ⟨_, _, h3⟩ := List.nodup_append.mp nd
    exact h3 a m a List.mem_cons_self rfl
  have kt : Kt H (upd H a (.lst (us ++ [v]))) := Kt.but But.upd ha
  refine ⟨same_upd s0 a0, b0, r0, nbr, bs' ++ [a], (upd_ne nab.symm).trans (by rw [hb, List.map_append]), (upd_ne nar.symm).trans hr', nd, ?_⟩
  show BdsAt K H0 _ lb lr (bs' ++ [a]) ((b ++ [.op z as]) :: B).reverse
  rw [List.reverse_cons]
  refine paired_snoc (BdsAt.upd bd' ha nas) ⟨a0, nab, nar, us ++ [v], upd_same, ?_⟩
  exact (TrsAt.kt kt _ _ tr).append (TrsAt.one (TrAt.kt kt _ _ hv))
theorem StkAt.opn {H0 H : Hp} {lb lr : Addr} {b : List Tr} {B : List (List Tr)} {R : List Int} (h : StkAt K H0 H lb lr (b :: B, R)) : ∃ bs : List Addr, bs.length = B.length + 1 ∧ H lr = some (.lst (R.reverse.map V.int)) ∧
    (∀ k, (upd H lr (.lst (R.reverse.map V.int ++ [.int k]))) lb = some (.lst (bs.map V.ref))) ∧ ∀ k H1 D, H1 = upd H lr (.lst (R.reverse.map V.int ++ [.int k])) → H1 D = none → (upd H1 D (.lst [])) lb = some (.lst (bs.map V.ref)) ∧ StkAt K H0 (upd (upd H1 D (.lst [])) lb (.lst (bs.map V.ref ++ [.ref D]))) lb lr ([] :: b :: B, k :: R) := by
  obtain ⟨s0, b0, r0, nbr, bs, hb, hr', nd, bd⟩ := h
  have bsl : bs.length = B.length + 1 := by
    have := Paired.length bd
    rwa [List.length_reverse] at this
  refine ⟨bs, bsl, hr', fun k => (upd_ne nbr).trans hb, fun k H1 D e1 nD => ?_⟩
  have nrb : lr ∉ bs := fun m => (bd.mem_ne m).2.2 rfl
  have hr2 : H1 lr = some (.lst ((k :: R).reverse.map V.int)) := by
    rw [e1, upd_same, List.reverse_cons, List.map_append]
    rfl
  have hb2 : H1 lb = some (.lst (bs.map V.ref)) := by
    rw [e1]
    exact (upd_ne nbr).trans hb
  have s02 : Same H0 H1 := by
    rw [e1]
    exact same_upd s0 r0
  have bd2 : BdsAt K H0 H1 lb lr bs (b :: B).reverse := by
    rw [e1]
    exact BdsAt.upd bd hr' nrb
  clear e1
  have s3 := same_new (H := H1) (o := .lst []) nD
  have hD := upd_same (H := H1) (a := D) (o := .lst [])
  generalize upd H1 D (.lst []) = H3 at s3 hD ⊢
  have hb3 := s3 _ _ hb2
  have D0 : H0 D = none := s02.free nD
  have nDb : D ≠ lb := (ne_of_none hb2 nD).symm
  have nDr : D ≠ lr := (ne_of_none hr2 nD).symm
  have nbb : lb ∉ bs := fun m => (bd2.mem_ne m).2.1 rfl
  have nDm : D ∉ bs := fun m => by
    have key : ∀ {bs : List Addr} {Z : List (List Tr)}, BdsAt K H0 H1 lb lr bs Z → D ∈ bs → False := fun {bs Z} h m => by
      induction h with
      | nil => cases m
      | cons h t ih =>
        rcases List.mem_cons.mp m with e | m
        · obtain ⟨_, _, _, us, hu, _⟩ := h
          rw [← e, nD] at hu
          cases hu
        · exact ih m
    exact key bd2 m
  refine ⟨hb3, same_upd (s02.trans s3) b0, b0, r0, nbr, bs ++ [D], upd_same.trans (by rw [List.map_append]; rfl), (upd_ne nbr.symm).trans (s3 _ _ hr2), ?_, ?_⟩
  · exact List.nodup_append.mpr ⟨nd, List.nodup_cons.mpr ⟨List.not_mem_nil, List.nodup_nil⟩, fun a ma y my e => by
      rw [List.mem_singleton.mp my] at e
      exact nDm (by rw [← e]; exact ma)⟩
  · show BdsAt K H0 _ lb lr (bs ++ [D]) (([] : List Tr) :: b :: B).reverse
    rw [List.reverse_cons]
    exact paired_snoc (BdsAt.upd (bd2.same s3) hb3 nbb) ⟨D0, nDb, nDr, [], (upd_ne nDb).trans hD, TrsAt.nil⟩
theorem wd_none {p n : Int} {d : Nat} {ws : List Str} (h : wdTk p n 0 ws = none) : wdTk p n d ws = none := by
  cases ws with
  | nil => rfl
  | cons z us =>
    rw [wdTk] at h ⊢
    by_cases c : z = "loop"
    · rw [if_pos c] at h ⊢
      by_cases c2 : us.length ≠ 2
      · exact opn_no3 c2
      match us, Decidable.not_not.mp c2, h with
      | [a, b], _, h =>
        rw [opnTk] at h ⊢
        by_cases c3 : b = "{" ∧ d ≠ 4
        · rw [if_pos ⟨c3.1, by decide⟩] at h
          rw [if_pos c3]
          exact h
        · rw [if_neg c3]
    · rw [if_neg c] at h ⊢
      exact h
theorem wd_some {p n : Int} {d : Nat} {ws : List Str} {z : Str} {as : List Int} (h : wdTk p n 0 ws = some (.op z as)) : wdTk p n d ws = some (.op z as) := by
  obtain ⟨_, nl, us, rfl, _⟩ := wd_op h
  rw [wdTk, if_neg nl] at h ⊢
  exact h
theorem wd_open2 {p n : Int} {d : Nat} {ws : List Str} {k : Int} (h : wdTk p n 0 ws = some (.opn k)) : wdTk p n d ws = if d = 4 then none else some (.opn k) := by
  obtain ⟨_, _, a, rfl, e⟩ := wd_opn h
  rw [wdTk, if_pos rfl, opnTk] at h ⊢
  rw [if_pos ⟨rfl, by decide⟩] at h
  by_cases c : d = 4
  · rw [if_pos c, if_neg fun h => h.2 c]
  · rw [if_neg c, if_pos ⟨rfl, c⟩]
    exact h
/-- a text begins so, told by its slice -/
theorem cut_starts {y : Str} {d : Nat} (hd : d < 9) : (cutS y none (some ((2 * d : Nat) : Int)) = mrg d) = (Txt.startswith y (mrg d) = true) := by
  have e : tl (cutS y none (some ((2 * d : Nat) : Int))) = (tl y).take (2 * d) := by
    have h : tl (cutS y none (some ((2 * d : Nat) : Int))) = ((tl y).drop 0).take (HT.sIx y.length y.length (some ((2 * d : Nat) : Int)) - 0) := rfl
    rw [h, List.drop_zero, HT.sIx_nat, Nat.sub_zero, len_tl]
    by_cases h2 : 2 * d ≤ (tl y).length
    · rw [Nat.min_eq_left h2]
    · rw [Nat.min_eq_right (by omega), List.take_length, List.take_of_length_le (by omega)]
  have ml := mrg_len hd
  refine propext ⟨fun h => ?_, fun h => ?_⟩
  · unfold Txt.startswith
    have h2 := congrArg tl h
    rw [e] at h2
    rw [Bool.and_eq_true]
    have h3 := congrArg List.length h2
    rw [List.length_take, ← len_tl (mrg d), ml] at h3
    refine ⟨decide_eq_true ?_, ?_⟩
    · rw [len_tl y, ml]
      omega
    · rw [StrLaws.subAt_eq, beq_iff_eq, List.drop_zero, ml]
      exact h2
  · unfold Txt.startswith at h
    rw [Bool.and_eq_true] at h
    obtain ⟨_, h⟩ := h
    rw [StrLaws.subAt_eq, beq_iff_eq, List.drop_zero, ml] at h
    refine ext_tl ?_
    rw [e]
    exact h
def spLrd (K : PySem.W.Frag) : Sp := fun vs H Q _ => ∃ (p n : Int) (y : Str), vs = [.int p, .int n, .str y] ∧ y.length ≤ 7000000 ∧ cnl y ≤ 400 ∧ p ≤ 10007 ∧ n ≤ 8 ∧
  (∀ b, rdP p n y = .inl b → ∀ H' t v, Same H H' → SqT K H' t [v, .non] → BodyAt K H' b v → drs (GoodOp p n) R18 b 4 → szN b ≤ 401 → Q (.ref t) H') ∧
  (∀ i : Nat, rdP p n y = .inr i → ∀ H' t, Same H H' → SqT K H' t [.non, .int (i : Int)] → Q (.ref t) H')
set_option maxHeartbeats 4000000 in
theorem ok_lread (M : Bl mg) (F : At K mg "_law_read" sRead ["_law_p", "_law_n", "_law_text"]) {k : Nat} (h1 : Has P w K mg base k "_law_line_op" ["_law_p", "_law_n", "_law_line"] (spLop K)) (h2 : Has P w K mg base k "_law_within" ["_law_program"] (spWit K)) : Has P w K mg base (k + 1) "_law_read" ["_law_p", "_law_n", "_law_text"] (spLrd K) := by
  obtain ⟨_, _, cLine_op⟩ := h1
  obtain ⟨_, _, cWithin⟩ := h2
  refine Has.by F scRead (fun vs H Q E h => ?_) (fun f cdv A out s H vs Q E hg hr h => ?_)
  · obtain ⟨_, _, _, rfl, _⟩ := h
    rfl
  obtain ⟨p, n, y, rfl, yl, yc, p1, n1, qy, qn⟩ := h
  refine ⟨_, (pss_cons (ps_par (i := 3) (j := 4) (by rfl) scRead.nd rfl rfl (by decide) rfl rfl (pa_cons (pe_lst (pa_cons (pe_lst pa_nil) pa_nil)) (pa_cons (pe_lst pa_nil) pa_nil)) (by rfl))
  (pss_cons (ps_set (i := 5) scRead.nd rfl (.inl rfl) (pe_ifExp (pt_cmpR op_ne (pv 2) pe_str (nomark _)) (pe_split (pv 2) pe_str) (pe_lst pa_nil)))
  (pss_cons (ps_for PassesOwn.never rfl (pi_enum (by rfl) M.enumerate_ (pa_cons (pv 5) pa_nil)) (pg_tup rfl (pgs_cons (pg_name (i := 6) scRead.nd rfl (.inl rfl)) (pgs_cons (pg_name (i := 7) scRead.nd rfl (.inl rfl)) pgs_nil)))
    (pss_cons (ps_set (i := 8) scRead.nd rfl (.inl rfl) (pe_callB call_len_seq (by rfl) M.len_ (by decide +kernel) (pa_cons (pv 4) pa_nil)))
  (pss_cons (ps_if (PW.pt (pw_and (pt_cmpR op_gt (pv 8) pe_int (nomark _)) (pw_and1 (pt_cmpR op_eq (pv 7) (pe_op op_add_str (pe_op op_mulS pe_str (pe_op op_sub (pv 8) pe_int)) pe_str) (nomark _)))))
    (pss_cons (ps_set (i := 9) scRead.nd rfl (.inl rfl) (pe_callTy call_tuple_of (by rfl) M.tuple_ (by decide +kernel) (pa_cons (pe_bm0 PySem.F.plainAttrs_list PySem.F.slot_list_pop PySem.F.type_list_pop mt_pop (pv 3)) pa_nil)))
  (pss_cons (ps_expr (pe_bm PySem.F.plainAttrs_list PySem.F.slot_list_append PySem.F.type_list_append mt_append (pe_ix ix_list (pv 3) (pe_un un_neg pe_int) (fun _ _ => rfl)) (pa_cons (pe_tup (pa_cons pe_str (pa_cons (pe_bm0 PySem.F.plainAttrs_list PySem.F.slot_list_pop PySem.F.type_list_pop mt_pop (pv 4)) (pa_cons (pv 9) pa_nil)))) pa_nil)))
  (pss_one ps_continue)))
    pss_nil)
  (pss_cons (ps_set (i := 10) scRead.nd rfl (.inl rfl) (pe_ifExp (pt_cmpR op_eq (pe_slice sl_str (pv 7) po_none (po_some (pe_op op_mul pe_int (pv 8)))) (pe_op op_mulS pe_str (pv 8)) (nomark _)) (pe_cal cLine_op hg hr (by rfl) (pa_cons (pv 0) (pa_cons (pv 1) (pa_cons (pe_slice sl_str (pv 7) (po_some (pe_op op_mul pe_int (pv 8))) po_none) pa_nil)))) pe_non))
  (pss_cons (ps_if (PW.pt (pw_or (pt_cmpR op_isN (pv 10) pe_non (nomark _)) (pw_or1 (PW.pt (pw_and (pt_cmpR op_eq (pe_ix ix_tup (pv 10) pe_int (fun _ _ => rfl)) pe_str (nomark _)) (pw_and1 (pt_cmpR op_eq (pv 8) pe_int (nomark _))))))))
    (pss_one (ps_ret (pe_tup (pa_cons pe_non (pa_cons (pv 6) pa_nil)))))
    pss_nil)
  (pss_one (ps_if (pt_cmpR op_eq (pe_ix ix_tup (pv 10) pe_int (fun _ _ => rfl)) pe_str (nomark _))
    (pss_cons (ps_expr (pe_bm PySem.F.plainAttrs_list PySem.F.slot_list_append PySem.F.type_list_append mt_append (pv 4) (pa_cons (pe_ix ix_tup (pv 10) pe_int (fun _ _ => rfl)) pa_nil)))
  (pss_one (ps_expr (pe_bm PySem.F.plainAttrs_list PySem.F.slot_list_append PySem.F.type_list_append mt_append (pv 3) (pa_cons (pe_lst pa_nil) pa_nil)))))
    (pss_one (ps_expr (pe_bm PySem.F.plainAttrs_list PySem.F.slot_list_append PySem.F.type_list_append mt_append (pe_ix ix_list (pv 3) (pe_un un_neg pe_int) (fun _ _ => rfl)) (pa_cons (pv 10) pa_nil)))))))))))
  (pss_cons (ps_if (pt_cmpR (op_neD hr.units) (pv 4) (pe_lst pa_nil) (nomark _))
    (pss_one (ps_ret (pe_tup (pa_cons pe_non (pa_cons (pe_callB call_len_seq (by rfl) M.len_ (by decide +kernel) (pa_cons (pv 5) pa_nil)) pa_nil)))))
    pss_nil)
  (pss_one (ps_ret (pe_ifExp (pt_val (pe_cal cWithin hg hr (by rfl) (pa_cons (pe_callTy call_tuple_of (by rfl) M.tuple_ (by decide +kernel) (pa_cons (pe_ix ix_list (pv 3) pe_int (fun _ _ => rfl)) pa_nil)) pa_nil))) (pe_tup (pa_cons (pe_callTy call_tuple_of (by rfl) M.tuple_ (by decide +kernel) (pa_cons (pe_ix ix_list (pv 3) pe_int (fun _ _ => rfl)) pa_nil)) (pa_cons pe_non pa_nil))) (pe_tup (pa_cons pe_non (pa_cons pe_int pa_nil)))))))))), ?_⟩
  refine ⟨Nat.zero_le _, fun a na => ?_⟩
  have sa := same_new (H := H) (o := .lst []) na
  have ha := upd_same (H := H) (a := a) (o := .lst [])
  generalize upd H a (.lst []) = H1 at sa ha ⊢
  refine ⟨(by show 1 ≤ sizeLine; decide), fun lb nb => ?_⟩
  have sb := same_new (H := H1) (o := .lst [V.ref a]) nb
  have hb := upd_same (H := H1) (a := lb) (o := .lst [V.ref a])
  generalize upd H1 lb (.lst [V.ref a]) = H2 at sb hb ⊢
  refine ⟨Nat.zero_le _, fun lr nr => ?_⟩
  have sr := same_new (H := H2) (o := .lst []) nr
  have hr' := upd_same (H := H2) (a := lr) (o := .lst [])
  generalize upd H2 lr (.lst []) = H3 at sr hr' ⊢
  refine ⟨_, _, rfl, ?_⟩
  have ll := lnsOf_len y
  have lsh := lnsOf_short y
  refine lines_if (ls := lnsOf y) rfl ?_ ?_ ?_ ?_
  · intro e
    unfold lnsOf
    rw [if_pos e]
  · intro e
    unfold lnsOf
    rw [if_neg e]
  · rw [sizeLine_eq]
    omega
  intro lp nl
  generalize els : lnsOf y = ls at ll lsh ⊢
  have s1 := same_new (H := H3) (o := .lst (ls.map V.str)) nl
  have hl := upd_same (H := H3) (a := lp) (o := .lst (ls.map V.str))
  generalize upd H3 lp (.lst (ls.map V.str)) = H4 at s1 hl ⊢
  have lp0 : H lp = none := (sa.trans (sb.trans sr)).free nl
  generalize eH0 : upd H lp (.lst (ls.map V.str)) = H0
  have sH : Same H H0 := by
    rw [← eH0]
    exact same_new lp0
  have hl0 : H0 lp = some (.lst (ls.map V.str)) := by
    rw [← eH0]
    exact upd_same
  have s04 : Same H0 H4 := by
    rw [← eH0]
    intro c o e
    by_cases h : c = lp
    · subst h
      rw [upd_same] at e
      rw [hl]
      exact e
    · rw [upd_ne h] at e
      exact s1 _ _ (sr _ _ (sb _ _ (sa _ _ e)))
  have f0 : ∀ {c : Addr}, c ≠ lp → H c = none → H0 c = none := fun {c} h e => by
    rw [← eH0]
    exact (upd_ne h).trans e
  have nab : a ≠ lb := ne_of_none ha nb
  have nar : a ≠ lr := ne_of_none (sb _ _ ha) nr
  have nbr : lb ≠ lr := ne_of_none hb nr
  have nal : a ≠ lp := ne_of_none (sr _ _ (sb _ _ ha)) nl
  have nbl : lb ≠ lp := ne_of_none (sr _ _ hb) nl
  have nrl : lr ≠ lp := ne_of_none hr' nl
  have st0 : StkAt K H0 H4 lb lr ([[]], []) := by
    refine ⟨s04, f0 nbl (sa.free nb), f0 nrl ((sa.trans sb).free nr), nbr, [a], s1 _ _ (sr _ _ hb), s1 _ _ hr', List.nodup_cons.mpr ⟨List.not_mem_nil, List.nodup_nil⟩, ?_⟩
    exact .cons ⟨f0 nal na, nab, nar, [], s1 _ _ (sr _ _ (sb _ _ ha)), TrsAt.nil⟩ .nil
  clear eH0
  have hl2 : ∀ {H' S}, StkAt K H0 H' lb lr S → SqL K H' lp (ls.map V.str) := fun r => SqL.of (r.1 _ _ hl0)
  refine ⟨_, rfl, lp, _, rfl, hl2 st0, ?_⟩
  refine for_it (walk_enum (K := K) (a := lp) (xs := ls.map V.str)) (fun i σ H' => ∃ y6 y7 y8 y9 y10 S, σ = [some (.int p), some (.int n), some (.str y), some (.ref lb), some (.ref lr), some (.ref lp), y6, y7, y8, y9, y10] ∧ rdI p n ([[]], []) 0 (ls.take i) = .inl S ∧ StkAt K H0 H' lb lr S) ⟨_, _, _, _, _, ([[]], []), rfl, rfl, st0⟩ (fun i σ H' _ ⟨_, _, _, _, _, _, _, _, h⟩ => hl2 h) ?_ ?_
  · rintro i y0 σ H5 H6 hi ⟨y6, y7, y8, y9, y10, S, rfl, eS, rd3⟩ ⟨T, x1, x2, rfl, nT, rfl, e1, e2⟩
    cases e1
    have e2 : (ls.map V.str)[i]? = some x2 := e2
    rw [List.getElem?_map] at e2
    obtain ⟨l, hl4, rfl⟩ : ∃ l, ls[i]? = some l ∧ x2 = .str l := by
      cases hh : ls[i]? with
      | none =>
        rw [hh] at e2
        cases e2
      | some l =>
        rw [hh] at e2
        exact ⟨l, rfl, (Option.some.inj e2).symm⟩
    have ml := List.mem_of_getElem? hl4
    have il : i < ls.length := (List.getElem?_eq_some_iff.mp hl4).1
    have sT := same_new (o := .tup [V.int (i : Nat), .str l]) nT
    have rd4 := rd3.same sT
    refine ⟨T, _, rfl, SqT.of upd_same, rfl, _, _, rfl, _, _, rfl, rfl, ?_⟩
    generalize upd H5 T (.tup [V.int (i : Nat), .str l]) = H6 at rd4 ⊢
    obtain ⟨gs, me⟩ := rdI_len eS
    obtain ⟨⟨b1, B1, eB⟩, r4, bl⟩ := gs.form
    have mm : ∀ c ∈ S.1, c.length ≤ 1000 := fun c mc => by
      have h1 := mem_meN mc
      have h2 := szN_len c
      omega
    have nxt := fun (t : Tk) (h : lnTk p n S.2.length l = some t) => rdI_next eS hl4 h
    have fl : lnTk p n S.2.length l = none → ∀ H' t, Same H H' → SqT K H' t [.non, .int (i : Int)] → Q (.ref t) H' := fun h => qn i (rdP_inr (by rw [els]; exact rdI_fail eS hl4 h))
    have l7 := lsh l ml
    obtain ⟨S1, R⟩ := S
    cases eB
    have bl : B1.length = R.length := by
      have bl : B1.length + 1 = R.length + 1 := bl
      omega
    have r4 : R.length ≤ 4 := r4
    have hr6 : H6 lr = some (.lst (R.reverse.map V.int)) := by
      obtain ⟨_, _, _, _, _, _, h, _⟩ := rd4
      exact h
    refine ⟨_, rfl, lr, _, rfl, .inl (SqL.of hr6), ?_⟩
    rw [List.length_map, List.length_reverse]
    refine ⟨_, rfl, _, _, rfl, rfl, _, rfl, ?_⟩
    by_cases hc : R.length ≠ 0 ∧ l = mrg (R.length - 1) ++ "}"
    · have el0 : lnTk p n R.length l = some .cls := by
        unfold lnTk
        rw [if_pos hc]
      have nx := nxt _ el0
      obtain ⟨hc0, hc1⟩ := hc
      obtain ⟨k', R', rfl⟩ : ∃ k' R', R = k' :: R' := by
        cases R with
        | nil => exact absurd rfl hc0
        | cons k' R' => exact ⟨k', R', rfl⟩
      obtain ⟨c, B', rfl⟩ : ∃ c B', B1 = c :: B' := by
        cases B1 with
        | nil => cases bl
        | cons c B' => exact ⟨c, B', rfl⟩
      have nx : rdI p n ([[]], []) 0 (ls.take (i + 1)) = .inl ((c ++ [.loop k' b1]) :: B', R') := nx
      rw [List.length_cons] at r4
      refine iteP (by rw [List.length_cons]; omega) ?_
      have el : (((k' :: R').length : Nat) : Int) - 1 = (R'.length : Int) := by
        rw [List.length_cons]
        omega
      refine ⟨_, rfl, _, rfl, _, _, rfl, rfl, ?_⟩
      refine ⟨"  ", (R'.length : Int), rfl, congrArg V.int el, mrg_ok (by omega), ?_⟩
      refine ⟨mrg R'.length, "}", rfl, rfl, by rw [mrg_len (by omega), sizeLine_eq]; show _ + 1 ≤ _; omega, rfl, _, rfl, ?_⟩
      refine iteP (congrArg V.str (show l = mrg R'.length ++ "}" from hc1)) ?_
      obtain ⟨s0, b0, r0, _, bs, hb6, _, nd, bd⟩ := rd4
      have er : (b1 :: c :: B').reverse = (B'.reverse ++ [c]) ++ [b1] := by rw [List.reverse_cons, List.reverse_cons]
      have bd : BdsAt K H0 H6 lb lr bs (b1 :: c :: B').reverse := bd
      rw [er] at bd
      obtain ⟨bs1, a, rfl, bd1, a0, nab, nar, us, ha, tr⟩ := paired_last bd
      obtain ⟨bs2, a2, rfl, bd2, a20, na2b, na2r, us2, ha2, tr2⟩ := paired_last bd1
      rw [List.map_append] at hb6
      have hb6 : H6 lb = some (.lst ((bs2 ++ [a2]).map V.ref ++ [V.ref a])) := hb6
      refine ⟨_, rfl, .inl ⟨rfl, _, SqL.of hb6⟩, lb, (bs2 ++ [a2]).map V.ref ++ [V.ref a], .ref a, rfl, rfl, hb6, by rw [List.length_append, List.length_singleton, Nat.add_sub_cancel, List.getElem?_append_right (Nat.le_refl _), Nat.sub_self]; rfl, ?_⟩
      rw [List.dropLast_concat]
      have nd1 : (bs2 ++ [a2]).Nodup := (List.nodup_append.mp nd).1
      have na2m : a2 ∉ bs2 := fun m => (List.nodup_append.mp nd1).2.2 a2 m a2 List.mem_cons_self rfl
      have bd2 : BdsAt K H0 H6 lb lr bs2 B'.reverse := bd2
      have nbm : lb ∉ bs2 := fun m => (bd2.mem_ne m).2.1 rfl
      have nrm : lr ∉ bs2 := fun m => (bd2.mem_ne m).2.2 rfl
      have k1 : Kt H6 (upd H6 lb (.lst ((bs2 ++ [a2]).map V.ref))) := Kt.but But.upd hb6
      generalize eH1 : upd H6 lb (.lst ((bs2 ++ [a2]).map V.ref)) = J1 at k1 ⊢
      have s1 : Same H0 J1 := by
        rw [← eH1]
        exact same_upd s0 b0
      have hb1 : J1 lb = some (.lst ((bs2 ++ [a2]).map V.ref)) := by
        rw [← eH1]
        exact upd_same
      have hr1 : J1 lr = some (.lst ((k' :: R').reverse.map V.int)) := by
        rw [← eH1]
        exact (upd_ne nbr.symm).trans hr6
      have ha1 : J1 a = some (.lst us) := by
        rw [← eH1]
        exact (upd_ne nab).trans ha
      have ha21 : J1 a2 = some (.lst us2) := by
        rw [← eH1]
        exact (upd_ne na2b).trans ha2
      have tr1 := TrsAt.kt k1 _ _ tr
      have tr21 := TrsAt.kt k1 _ _ tr2
      have bd21 : BdsAt K H0 J1 lb lr bs2 B'.reverse := by
        rw [← eH1]
        exact BdsAt.upd bd2 hb6 nbm
      clear eH1
      refine ⟨a, us, rfl, .inl ⟨SqL.of ha1, fun t nt => ?_⟩⟩
      have s2 := same_new (H := J1) (o := .tup us) nt
      have ht := upd_same (H := J1) (a := t) (o := .tup us)
      generalize upd J1 t (.tup us) = J2 at s2 ht ⊢
      have hb2 := s2 _ _ hb1
      rw [List.map_append] at hb2
      have hb2 : J2 lb = some (.lst (bs2.map V.ref ++ [V.ref a2])) := hb2
      refine ⟨_, rfl, _, rfl, lb, _, -1, .ref a2, rfl, rfl, SqL.of hb2, atI_last _ _, .inl ⟨rfl, _, SqL.of (s2 _ _ ha21)⟩, ?_⟩
      have hr2 := s2 _ _ hr1
      have er2 : ((k' :: R').reverse.map V.int) = R'.reverse.map V.int ++ [V.int k'] := by
        rw [List.reverse_cons, List.map_append]
        rfl
      rw [er2] at hr2
      refine ⟨_, rfl, .inl ⟨rfl, _, SqL.of hr2⟩, lr, R'.reverse.map V.int ++ [V.int k'], .int k', rfl, rfl, hr2, by rw [List.length_append, List.length_singleton, Nat.add_sub_cancel, List.getElem?_append_right (Nat.le_refl _), Nat.sub_self]; rfl, ?_⟩
      rw [List.dropLast_concat]
      have k3 : Kt J2 (upd J2 lr (.lst (R'.reverse.map V.int))) := Kt.but But.upd hr2
      have s02 : Same H0 J2 := s1.trans s2
      generalize eH3 : upd J2 lr (.lst (R'.reverse.map V.int)) = J3 at k3 ⊢
      have s03 : Same H0 J3 := by
        rw [← eH3]
        exact same_upd s02 r0
      have hr3 : J3 lr = some (.lst (R'.reverse.map V.int)) := by
        rw [← eH3]
        exact upd_same
      have hb3 : J3 lb = some (.lst (bs2.map V.ref ++ [V.ref a2])) := by
        rw [← eH3]
        exact (upd_ne nbr).trans hb2
      have ha23 : J3 a2 = some (.lst us2) := by
        rw [← eH3]
        exact (upd_ne na2r).trans (s2 _ _ ha21)
      have tr3 := TrsAt.kt k3 _ _ (TrsAt.kt (Kt.same s2) _ _ tr1)
      have tr23 := TrsAt.kt k3 _ _ (TrsAt.kt (Kt.same s2) _ _ tr21)
      have ht3 : SqT K J3 t us := k3.sq (SqT.of ht)
      have bd23 : BdsAt K H0 J3 lb lr bs2 B'.reverse := by
        rw [← eH3]
        exact BdsAt.upd (bd21.same s2) hr2 nrm
      clear eH3
      refine ⟨_, rfl, ?_, fun t2 nt2 => ?_⟩
      · rw [sizeLine_eq]
        exact Nat.le_of_ble_eq_true rfl
      have s4 := same_new (H := J3) (o := .tup [V.str "loop", V.int k', V.ref t]) nt2
      have ht2 := upd_same (H := J3) (a := t2) (o := .tup [V.str "loop", V.int k', V.ref t])
      generalize upd J3 t2 (.tup [V.str "loop", V.int k', V.ref t]) = J4 at s4 ht2 ⊢
      have ul : us2.length = c.length := tr2.length
      have cl : c.length ≤ 1000 := mm c (List.mem_cons_of_mem _ List.mem_cons_self)
      have ha24 := s4 _ _ ha23
      refine ⟨a2, us2, _, rfl, rfl, ha24, by rw [ul, sizeLine_eq]; omega, ?_⟩
      have kt : Kt J4 (upd J4 a2 (.lst (us2 ++ [V.ref t2]))) := Kt.but But.upd ha24
      refine ⟨_, _, _, _, _, ((c ++ [.loop k' b1]) :: B', R'), rfl, nx, same_upd (s03.trans s4) a20, b0, r0, nbr, bs2 ++ [a2], (upd_ne na2b.symm).trans (by rw [s4 _ _ hb3, List.map_append]; rfl), (upd_ne na2r.symm).trans (s4 _ _ hr3), nd1, ?_⟩
      show BdsAt K H0 _ lb lr (bs2 ++ [a2]) ((c ++ [.loop k' b1]) :: B').reverse
      rw [List.reverse_cons]
      refine paired_snoc (BdsAt.upd (bd23.same s4) ha24 na2m) ⟨a20, na2b, na2r, us2 ++ [V.ref t2], upd_same, ?_⟩
      refine (TrsAt.kt kt _ _ (TrsAt.kt (Kt.same s4) _ _ tr23)).append (TrsAt.one ?_)
      rw [TrAt]
      exact ⟨t2, t, us, rfl, kt.sq (SqT.of ht2), kt.sq ((Kt.same s4).sq ht3), TrsAt.kt kt _ _ (TrsAt.kt (Kt.same s4) _ _ tr3)⟩
    · have eln : lnTk p n R.length l = if Txt.startswith l (mrg R.length) = true then wdTk p n R.length (Txt.split (cutS l (some ((2 * R.length : Nat) : Int)) none) " ") else none := by
        unfold lnTk
        rw [if_neg hc]
      refine andIf ?_ fun ec G => ?_
      · refine iteF ?_
        have e2 : (2 : Int) * (R.length : Int) = ((2 * R.length : Nat) : Int) := by omega
        refine ⟨_, rfl, _, rfl, 2, _, rfl, rfl, .inl ⟨by decide, by decide⟩, _, rfl, ?_⟩
        have mlr := mrg_len (d := R.length) (by omega)
        refine ⟨l, rfl, by rw [sizeLine_eq]; omega, ?_⟩
        refine ⟨_, rfl, "  ", (R.length : Int), rfl, rfl, mrg_ok (by omega), rfl, _, rfl, ?_⟩
        rw [e2]
        have st := cut_starts (y := l) (d := R.length) (by omega)
        by_cases cs : cutS l none (some ((2 * R.length : Nat) : Int)) = mrg R.length
        · have cs1 := cs
          rw [st] at cs1
          rw [if_pos cs1] at eln
          refine iteP (congrArg V.str cs) ?_
          have cl := cutS_short l (some ((2 * R.length : Nat) : Int)) none
          refine ⟨_, rfl, _, rfl, _, rfl, _, rfl, 2, _, rfl, rfl, .inl ⟨by decide, by decide⟩, _, rfl, l, rfl, by rw [sizeLine_eq]; omega, ?_⟩
          rw [e2]
          generalize cutS l (some ((2 * R.length : Nat) : Int)) none = z0 at eln cl ⊢
          refine ⟨p, n, z0, rfl, by omega, p1, n1, fun h J s => ?_, fun k h J t s sq => ?_, fun z as h J v s hv => ?_⟩
          · rw [wd_none h] at eln
            refine ⟨_, rfl, rfl, _, rfl, iteP rfl ?_⟩
            exact ⟨_, rfl, (by show 2 ≤ sizeLine; decide), fun t nt => fl eln _ t (sH.trans ((rd4.same s).1.trans (same_new nt))) (SqT.of upd_same)⟩
          · rw [wd_open2 h] at eln
            refine ⟨_, rfl, rfl, _, rfl, iteN (fun e => nomatch e) ?_⟩
            refine ⟨_, rfl, t, _, 0, .str "open", rfl, rfl, sq, at0, rfl, _, rfl, iteP rfl ?_⟩
            refine ⟨_, rfl, rfl, _, rfl, ?_⟩
            by_cases c4 : R.length = 4
            · refine iteP (congrArg (fun m : Nat => V.int (m : Int)) c4) ?_
              rw [if_pos c4] at eln
              exact ⟨_, rfl, (by show 2 ≤ sizeLine; decide), fun t nt => fl eln _ t (sH.trans ((rd4.same s).1.trans (same_new nt))) (SqT.of upd_same)⟩
            · refine iteN (fun e => c4 ?_) ?_
              · have e := V.int.inj e
                omega
              rw [if_neg c4] at eln
              have nx : rdI p n ([[]], []) 0 (ls.take (i + 1)) = .inl ([] :: b1 :: B1, k :: R) := nxt _ eln
              have stJ := rd4.same s
              obtain ⟨bs, bsl, hrJ, hbk, go⟩ := stJ.opn
              refine ⟨_, rfl, t, _, 0, .str "open", rfl, rfl, sq, at0, rfl, _, rfl, iteP rfl ?_⟩
              refine ⟨_, rfl, .inl ⟨rfl, _, SqL.of hrJ⟩, _, rfl, t, _, 1, .int k, rfl, rfl, sq, rfl, lr, _, _, rfl, rfl, hrJ, by rw [List.length_map, List.length_reverse, sizeLine_eq]; show R.length + 1 ≤ _; omega, ?_⟩
              have hbJ := hbk k
              generalize eJ : upd J lr (.lst (R.reverse.map V.int ++ [.int k])) = J1 at hbJ ⊢
              refine ⟨_, rfl, .inl ⟨rfl, _, SqL.of hbJ⟩, Nat.zero_le _, fun D nD => ?_⟩
              obtain ⟨g1, g2⟩ := go k J1 D eJ.symm nD
              refine ⟨lb, _, _, rfl, rfl, g1, by rw [List.length_map, sizeLine_eq]; omega, ?_⟩
              exact ⟨_, _, _, _, _, _, rfl, nx, g2⟩
          · rw [wd_some h] at eln
            obtain ⟨gz, _⟩ := wd_op h
            have nz : V.str z ≠ V.str "open" := fun e => by
              have e := V.str.inj e
              subst e
              exact absurd (GoodOp.w7 gz) (by decide +kernel)
            have nx : rdI p n ([[]], []) 0 (ls.take (i + 1)) = .inl ((b1 ++ [.op z as]) :: B1, R) := nxt _ eln
            have stJ := rd4.same s
            obtain ⟨bs, a, us, hbJ, haJ, ul, go⟩ := stJ.op
            have hv0 := hv
            rw [TrAt] at hv0
            obtain ⟨av, rfl, sv⟩ := hv0
            refine ⟨_, rfl, rfl, _, rfl, iteN (fun e => nomatch e) ?_⟩
            refine ⟨_, rfl, av, _, 0, .str z, rfl, rfl, sv, at0, rfl, _, rfl, iteN nz ?_⟩
            refine ⟨_, rfl, av, _, 0, .str z, rfl, rfl, sv, at0, rfl, _, rfl, iteN nz ?_⟩
            have bm := mm b1 List.mem_cons_self
            refine ⟨_, rfl, _, rfl, lb, _, -1, .ref a, rfl, rfl, SqL.of hbJ, atI_last _ _, .inl ⟨rfl, _, SqL.of haJ⟩, _, rfl, a, us, _, rfl, rfl, haJ, by rw [ul, sizeLine_eq]; omega, ?_⟩
            exact ⟨_, _, _, _, _, _, rfl, nx, go _ z as hv⟩
        · have cs1 := cs
          rw [st] at cs1
          rw [if_neg cs1] at eln
          refine iteN (fun e => cs (V.str.inj e)) ?_
          refine ⟨_, rfl, rfl, _, rfl, iteP rfl ?_⟩
          exact ⟨_, rfl, (by show 2 ≤ sizeLine; decide), fun t nt => fl eln _ t (sH.trans (rd4.1.trans (same_new nt))) (SqT.of upd_same)⟩
      · have ec : (0 : Int) < (R.length : Int) := of_decide_eq_true ec
        obtain ⟨k', R', rfl⟩ : ∃ k' R', R = k' :: R' := by
          cases R with
          | nil => exact absurd ec (by decide)
          | cons k' R' => exact ⟨k', R', rfl⟩
        have el : (((k' :: R').length : Nat) : Int) - 1 = (R'.length : Int) := by
          rw [List.length_cons]
          omega
        rw [List.length_cons] at r4
        refine ⟨_, rfl, _, rfl, _, _, rfl, rfl, ?_⟩
        refine ⟨"  ", (R'.length : Int), rfl, congrArg V.int el, mrg_ok (by omega), ?_⟩
        refine ⟨mrg R'.length, "}", rfl, rfl, by rw [mrg_len (by omega), sizeLine_eq]; show _ + 1 ≤ _; omega, rfl, _, rfl, ?_⟩
        exact iteN (fun e => hc ⟨Nat.succ_ne_zero _, V.str.inj e⟩) G
  · rintro σ J ⟨y6, y7, y8, y9, y10, S, rfl, eS, rd3⟩
    rw [show (ls.map V.str).length = ls.length from List.length_map _, List.take_length] at eS
    have eS0 := eS
    rw [← els] at eS
    have eP := rdP_inl eS
    rw [els] at eP
    obtain ⟨gs, me⟩ := rdI_len (i := ls.length) (by rw [List.take_length]; exact eS0)
    obtain ⟨⟨b, B1, eB⟩, r4, bl⟩ := gs.form
    obtain ⟨S1, R⟩ := S
    cases eB
    obtain ⟨s13, b0, r0, _, bs, hbJ, hrJ, nd3, bd⟩ := rd3
    have hrJ : J lr = some (.lst (R.reverse.map V.int)) := hrJ
    refine ⟨_, rfl, Nat.zero_le _, fun e ne => ?_⟩
    have s4 := same_new (H := J) (o := .lst []) ne
    have he := upd_same (H := J) (a := e) (o := .lst [])
    generalize upd J e (.lst []) = J1 at s4 he ⊢
    refine ⟨.list (R.reverse.map PyData.int), .list [], .lst (SqL.of (s4 _ _ hrJ)) (ints_dp57 _), .lst (SqL.of he) .nil, shaped_lst57 _, rfl, ?_⟩
    rw [eqv_nil]
    have sJ : Same H J1 := sH.trans (s13.trans s4)
    cases R with
    | cons k' R' =>
      have eN : (!((k' :: R').reverse.map PyData.int).isEmpty) = true := by
        rw [List.reverse_cons, List.map_append]
        cases R'.reverse.map PyData.int <;> rfl
      rw [eN]
      refine ⟨_, rfl, iteT ?_⟩
      refine ⟨_, rfl, lp, _, rfl, .inl (SqL.of (s4 _ _ (s13 _ _ hl0))), (by show 2 ≤ sizeLine; decide), fun t nt => ?_⟩
      refine qn ls.length eP _ t (sJ.trans (same_new nt)) ?_
      have := upd_same (H := J1) (a := t) (o := .tup [V.non, V.int ((ls.map V.str).length : Nat)])
      rw [List.length_map] at this
      rw [List.length_map]
      exact SqT.of this
    | nil =>
    have bl : B1.length + 1 = 1 := bl
    obtain rfl : B1 = [] := List.length_eq_zero_iff.mp (by omega)
    refine ⟨_, rfl, iteF ?_⟩
    have bd : BdsAt K H0 J lb lr bs ([] ++ [b]) := bd
    obtain ⟨bs', a, rfl, bd', a0, nab, nar, us, haJ, tr⟩ := paired_last bd
    cases bd'
    have hbJ : J lb = some (.lst [V.ref a]) := hbJ
    have dr : drs (GoodOp p n) R18 b 4 := gs.top
    have szb : szN b ≤ 401 := by
      have h1 := mem_meN (s := ([b], [])) (c := b) List.mem_cons_self
      omega
    have hR : ∀ k, R18 k → 0 ≤ k ∧ k ≤ 10 ^ 18 := fun k h => h
    have okb : okB 5 b := drs_ok (d := 4) (fun _ _ g => GoodOp.w7 g) hR (by omega) dr
    have eP : rdP p n y = if wit b = true then .inl b else .inr 0 := eP
    refine ⟨_, rfl, lb, _, 0, .ref a, rfl, rfl, SqL.of (s4 _ _ hbJ), at0, ?_⟩
    refine ⟨a, us, rfl, .inl ⟨SqL.of (s4 _ _ haJ), fun t nt => ?_⟩⟩
    have s5 := same_new (H := J1) (o := .tup us) nt
    have ht := upd_same (H := J1) (a := t) (o := .tup us)
    generalize upd J1 t (.tup us) = J2 at s5 ht ⊢
    have tr5 := TrsAt.kt (Kt.same (s4.trans s5)) _ _ tr
    refine ⟨_, b, rfl, ⟨t, us, rfl, SqT.of ht, tr5⟩, okb, fun J3 s6 => ⟨_, rfl, ?_⟩⟩
    have s56 := s5.trans s6
    cases hw : wit b with
    | true =>
      rw [hw, if_pos rfl] at eP
      refine iteT ?_
      refine ⟨_, rfl, lb, _, 0, .ref a, rfl, rfl, SqL.of (s56 _ _ (s4 _ _ hbJ)), at0, ?_⟩
      refine ⟨a, us, rfl, .inl ⟨SqL.of (s56 _ _ (s4 _ _ haJ)), fun t2 nt2 => ?_⟩⟩
      have s7 := same_new (H := J3) (o := .tup us) nt2
      have ht2 := upd_same (H := J3) (a := t2) (o := .tup us)
      generalize upd J3 t2 (.tup us) = J4 at s7 ht2 ⊢
      have tr6 := TrsAt.kt (Kt.same (s6.trans s7)) _ _ tr5
      refine ⟨(by show 2 ≤ sizeLine; decide), fun t3 nt3 => ?_⟩
      have s8 := same_new (H := J4) (o := .tup [V.ref t2, V.non]) nt3
      exact qy b eP _ t3 _ ((sJ.trans s56).trans (s7.trans s8)) (SqT.of upd_same) ⟨t2, us, rfl, (Kt.same s8).sq (SqT.of ht2), TrsAt.kt (Kt.same s8) _ _ tr6⟩ dr szb
    | false =>
      rw [hw] at eP
      refine iteF ?_
      refine ⟨(by show 2 ≤ sizeLine; decide), fun t3 nt3 => ?_⟩
      exact qn 0 eP _ t3 ((sJ.trans s56).trans (same_new nt3)) (SqT.of upd_same)
end
end K58
set_option Elab.async false
set_option linter.all false
set_option maxRecDepth 100000
set_option pp.maxSteps 500
set_option pp.deepTerms.threshold 8
set_option pp.deepTerms false
namespace K58
open PySem PySem.Spec PyProof.Rows L2 Lj
section
variable {P : Program} {w : World} {K : PySem.W.Frag} {mg : Str → Option Value} {base : Heap}
open TL
/-! ### told -/
theorem pe_exvFK {X : Cx} {K : PySem.W.Frag} {e : Expr} {te : TE} {pos : PySem.Pos} {n : Str} (h : X.K = K) (he : PE X e te) (hb : attributeBase e n X.env (eval e X.env) = eval e X.env := by rfl) : PE X (.Attribute e n pos) (tExvF n te K) := h ▸ pe_exvF he hb
structure ErrsB (P : Program) (K : PySem.W.Frag) (mg : Str → Option Value) (CJ CB fB : Addr) : Prop where
  T : ErrTxt P K mg "BadText" "line" CB fB
  gJ : mg "JournalError" = some (.ref CJ)
  ex : PySem.W.exmOne K (.ref CB) (.ref CB) = some true
  xc : ExcC K CB
  kJ : PySem.W.kitOne K (.ref CB) (.ref CJ) = some true
def spTdA (K : PySem.W.Frag) : Sp := fun vs H Q _ => ∃ (p n : Int) (v : V) (dv : PyData), vs = [.int p, .int n, v] ∧ Dd K H v dv ∧ p ≤ 10007 ∧ n ≤ 8 ∧
  ((∃ y : Str, dv = .str y ∧ y.length ≤ 7000000 ∧ cnl y ≤ 400 ∧ (∀ b, rdP p n y = .inl b → ∀ H' t v', Same H H' → SqT K H' t [v', .non] → BodyAt K H' b v' → Q (.ref t) H') ∧
      (∀ i : Nat, rdP p n y = .inr i → ∀ H' t, Same H H' → SqT K H' t [.non, .int (i : Int)] → Q (.ref t) H')) ∨
    ((∀ y, dv ≠ .str y) ∧ ∀ H' t, Same H H' → SqT K H' t [.non, .int 0] → Q (.ref t) H'))
set_option maxHeartbeats 4000000 in
theorem ok_told (M : Bl mg) {CJ CB fB : Addr} (R : ErrsB P K mg CJ CB fB) (F : At K mg "_law_told" sTold ["_law_p", "_law_n", "_law_text"]) {k : Nat} (h : HasE P w K mg base k "read_program" ["p", "n", "text"] (spRpA K CB)) : Has P w K mg base (k + 1) "_law_told" ["_law_p", "_law_n", "_law_text"] (spTdA K) := by
  obtain ⟨_, _, cRead_program⟩ := h
  refine Has.by F scTold (fun vs H Q E h => ?_) (fun f cdv A out s H vs Q E hg hr h => ?_)
  · obtain ⟨_, _, _, _, rfl, _⟩ := h
    rfl
  obtain ⟨p, n, v, dv, rfl, dd, p1, n1, q⟩ := h
  refine ⟨_, (pss_cons (ps_set (i := 3) scTold.nd rfl (.inl rfl) pe_non)
  (pss_cons (ps_try_keep (i := 4) rfl rfl rfl scTold.nd rfl rfl ⟨by rfl, by decide, .inl R.T.gC⟩ takes0 (fun W pn xe tk _ => by exact pss_one (ps_set (i := 3) scTold.nd rfl (.inl rfl) (pe_tup (pa_cons (pe_calE cRead_program hg hr (by rfl) (fun σ => passAt tk σ) (pa_cons (pv 0) (pa_cons (pv 1) (pa_cons (pv 2) pa_nil)))) (pa_cons pe_non pa_nil))))) (fun a pn => by exact pss_one (ps_set (i := 3) scTold.nd rfl (.inl rfl) (pe_ifExp (pt_val (pe_callB (call_isX (K := K) rfl) (by rfl) M.isinstance_ (by decide +kernel) (pa_cons (pv 4) (pa_cons (pe_glob (v := .ref CJ) (by rfl) R.gJ rfl) pa_nil)))) (pe_tup (pa_cons pe_non (pa_cons (pe_exvFK (K := K) rfl (pv 4)) pa_nil))) pe_non))))
  (pss_one (ps_ret (pv 3))))), ?_⟩
  have T := R.T
  have fin : ∀ (i : Int) (J : Hp) (d a : Addr), Same H J → J d = some (.xd [("line", .int i)]) → J a = none → (∀ H' t, Same H H' → SqT K H' t [.non, .int i] → Q (.ref t) H') →
      ∃ J2, J2 = upd J a (exv a (.ref CB) (some d)) ∧ J2 a = some (exv a (.ref CB) (some d)) ∧ J2 d = some (.xd [("line", .int i)]) ∧ Same H J2 := fun i J d a s hd na _ => by
    have nad : d ≠ a := ne_of_none hd na
    exact ⟨_, rfl, upd_same, (upd_ne nad).trans hd, same_upd s (s.free na)⟩
  refine ⟨_, rfl, _, rfl, _, rfl, p, n, v, dv, rfl, dd, p1, n1, ?_⟩
  rcases q with ⟨y, e, yl, yc, q1, q2⟩ | ⟨e, q1⟩
  · refine .inl ⟨y, e, yl, yc, fun b hb J v' s hv => ?_, fun i hi d J s nd hd => ?_⟩
    · refine ⟨(by show 2 ≤ sizeLine; decide), fun t nt => ?_⟩
      have s2 := same_new (o := .tup [v', V.non]) nt
      exact ⟨_, rfl, q1 b hb _ t v' (s.trans s2) (SqT.of upd_same) (hv.kt (Kt.same s2))⟩
    · refine ⟨true, R.ex, fun _ a na => ?_, fun z => nomatch z⟩
      obtain ⟨J2, eJ, ha, hd2, s2⟩ := fin _ J d a s hd na (q2 i hi)
      rw [← eJ]
      have hasd : ∀ dd', some d = some dd' → ∃ fs, J2 dd' = some (.xd fs) := fun dd' e => by
        cases e
        exact ⟨_, hd2⟩
      refine ⟨_, rfl, a, CB, some d, _, _, true, rfl, ha, hasd, R.xc, .own CJ, R.kJ, _, rfl, iteT ?_⟩
      refine ⟨_, rfl, a, CB, d, _, .int (i : Int), rfl, ⟨T.ga, T.gg, T.exC, T.hdC⟩, T.noN, ha, hd2, by simp [List.lookup], (by show 2 ≤ sizeLine; decide), fun t nt => ?_⟩
      exact ⟨_, rfl, q2 i hi _ t (s2.trans (same_new nt)) (SqT.of upd_same)⟩
  · refine .inr ⟨e, fun d J s nd hd => ?_⟩
    refine ⟨true, R.ex, fun _ a na => ?_, fun z => nomatch z⟩
    obtain ⟨J2, eJ, ha, hd2, s2⟩ := fin _ J d a s hd na q1
    rw [← eJ]
    have hasd : ∀ dd', some d = some dd' → ∃ fs, J2 dd' = some (.xd fs) := fun dd' e => by
      cases e
      exact ⟨_, hd2⟩
    refine ⟨_, rfl, a, CB, some d, _, _, true, rfl, ha, hasd, R.xc, .own CJ, R.kJ, _, rfl, iteT ?_⟩
    refine ⟨_, rfl, a, CB, d, _, .int 0, rfl, ⟨T.ga, T.gg, T.exC, T.hdC⟩, T.noN, ha, hd2, by simp [List.lookup], (by show 2 ≤ sizeLine; decide), fun t nt => ?_⟩
    exact ⟨_, rfl, q1 _ t (s2.trans (same_new nt)) (SqT.of upd_same)⟩
end
end K58
set_option Elab.async false
set_option linter.all false
set_option maxRecDepth 100000
set_option pp.maxSteps 500
set_option pp.deepTerms.threshold 8
set_option pp.deepTerms false
namespace K58
open PySem PySem.Spec PyProof.Rows L2 Lj
section
variable {P : Program} {w : World} {K : PySem.W.Frag} {mg : Str → Option Value} {base : Heap}
open TL
/-! ### a text with one change -/
theorem cut_toT (y : Str) (i : Nat) : tl (cutS y none (some (i : Int))) = (tl y).take i := by
  have h : tl (cutS y none (some (i : Int))) = ((tl y).drop 0).take (HT.sIx y.length y.length (some (i : Int)) - 0) := rfl
  rw [h, List.drop_zero, HT.sIx_nat, Nat.sub_zero, len_tl]
  by_cases h2 : i ≤ (tl y).length
  · rw [Nat.min_eq_left h2]
  · rw [Nat.min_eq_right (by omega), List.take_length, List.take_of_length_le (by omega)]
theorem cut_fromT (y : Str) (i : Nat) : tl (cutS y (some (i : Int)) none) = (tl y).drop i := by
  have h : tl (cutS y (some (i : Int)) none) = ((tl y).drop (HT.sIx y.length 0 (some (i : Int)))).take (y.length - HT.sIx y.length 0 (some (i : Int))) := rfl
  rw [h, HT.sIx_nat, len_tl]
  by_cases h2 : i ≤ (tl y).length
  · rw [Nat.min_eq_left h2, List.take_of_length_le (by rw [List.length_drop]; omega)]
  · rw [Nat.min_eq_right (by omega), List.drop_length, List.drop_eq_nil_of_le (by omega), List.take_nil]
theorem cut_both (y : Str) {i j : Nat} (h : i ≤ j) : (cutS y none (some (i : Int))).length + (cutS y (some (j : Int)) none).length ≤ y.length ∧ cnl (cutS y none (some (i : Int))) + cnl (cutS y (some (j : Int)) none) ≤ cnl y := by
  have e : (tl y).take i ++ ((tl y).drop i) = tl y := List.take_append_drop _ _
  have e2 : (tl y).drop j = ((tl y).drop i).drop (j - i) := by rw [List.drop_drop, show i + (j - i) = j by omega]
  refine ⟨?_, ?_⟩
  · rw [len_tl, len_tl (cutS y (some (j : Int)) none), cut_toT, cut_fromT, len_tl y, List.length_take, List.length_drop]
    omega
  · unfold cnl
    rw [cut_toT, cut_fromT, e2]
    have h1 : (((tl y).drop i).drop (j - i)).count 10 ≤ ((tl y).drop i).count 10 := (List.drop_sublist _ _).count_le _
    have h2 := congrArg (fun l => l.count 10) e
    rw [List.count_append] at h2
    show _ ≤ (tl y).count 10
    omega
theorem cut_fromV (xs : List V) (i : Nat) : cutV xs (some (i : Int)) none = xs.drop i := by
  unfold cutV
  rw [HT.sIx_none, HT.sIx_nat]
  by_cases h : i ≤ xs.length
  · rw [Nat.min_eq_left h, List.take_of_length_le (by rw [List.length_drop]; exact Nat.le_refl _)]
  · rw [Nat.min_eq_right (by omega), Nat.sub_self, List.take_zero, List.drop_eq_nil_of_le (by omega)]
def sums (l : List Str) : Nat := (l.map (·.length)).sum
theorem sums_app (a b : List Str) : sums (a ++ b) = sums a + sums b := by
  unfold sums
  rw [List.map_append, List.sum_append]
theorem sums_rev (a : List Str) : sums a.reverse = sums a := by
  unfold sums
  rw [List.map_reverse, List.sum_reverse]
theorem sums_cut (l : List Str) (i : Nat) : sums (l.take i) + sums (l.drop i) = sums l := by
  rw [← sums_app, List.take_append_drop]
/-- what a change leaves -/
def ChgOk (y z : Str) : Prop := z.length ≤ 2 * y.length + 100 ∧ cnl z ≤ cnl y + 2
theorem chg_join {y : Str} {zs : List Str} (hm : ∀ z ∈ zs, z ∈ Txt.split y "\n") (hl : zs.length ≤ (Txt.split y "\n").length + 1) (hs : sums zs ≤ 2 * sums (Txt.split y "\n")) : ChgOk y (Txt.join "\n" zs) := by
  have f := split_free (x := y) nl_tl nl_hk
  have c := split_count (x := y) nl_tl nl_hk
  have s := split_sum (x := y) nl_tl nl_hk
  have j1 := join_cnl (l := zs) fun z mz => f z (hm z mz)
  have j2 := join_short zs
  unfold sums at hs
  have c : (Txt.split y "\n").length = cnl y + 1 := c
  have s : ((Txt.split y "\n").map (·.length)).sum + cnl y = y.length := s
  exact ⟨by omega, by omega⟩
def SgnOk (v : V) : Prop := ∃ z : Str, v = .str z ∧ z.length ≤ 9 ∧ cnl z ≤ 1
theorem sgn_ok (x : Str) : ∀ v ∈ sgn x, SgnOk v := fun v mv => by
  obtain ⟨c, _, rfl⟩ := List.mem_map.mp mv
  refine ⟨⟨#[c]⟩, rfl, by show 1 ≤ 9; decide, ?_⟩
  show [c].count 10 ≤ 1
  exact List.count_le_length
def spChg (K : PySem.W.Frag) : Sp := fun vs H Q _ => ∃ (u : Addr) (y : Str) (c : Nat), vs = [.ref u, .str y] ∧ Ur c H u ∧ c ≤ 900000000 ∧ y.length ≤ 3400000 ∧ cnl y ≤ 380 ∧
  ∀ z H', ChgOk y z → Ur (c + 10) H' u → But u H H' → Q (.str z) H'
set_option maxHeartbeats 4000000 in
theorem ok_changed (M : Bl mg) (F : At K mg "_law_changed" sChanged ["_law_pot", "_law_text"]) {k : Nat} (h1 : Has P w K mg base k "_law_draw" ["_law_pot", "_law_upto"] spTk) (h2 : Has P w K mg base k "_law_pick" ["_law_pot", "_law_items"] (spO K)) : Has P w K mg base (k + 1) "_law_changed" ["_law_pot", "_law_text"] (spChg K) := by
  obtain ⟨_, _, cDraw⟩ := h1
  obtain ⟨_, _, cPick⟩ := h2
  refine Has.by F scChanged (fun vs H Q E h => ?_) (fun f cdv A out s H vs Q E hg hr h => ?_)
  · obtain ⟨_, _, _, rfl, _⟩ := h
    rfl
  obtain ⟨u, y, c, rfl, hU, c9, yl, yc, q⟩ := h
  refine ⟨_, (pss_cons (ps_par (i := 2) (j := 3) (by rfl) scChanged.nd rfl rfl (by decide) rfl rfl (pa_cons (pe_cal cDraw hg hr (by rfl) (pa_cons (pv 0) (pa_cons pe_int pa_nil))) (pa_cons (pe_split (pv 1) pe_str) pa_nil)) (by rfl))
  (pss_cons (ps_par (i := 4) (j := 5) (by rfl) scChanged.nd rfl rfl (by decide) rfl rfl (pa_cons (pe_cal cDraw hg hr (by rfl) (pa_cons (pv 0) (pa_cons (pe_op op_add (pe_callB call_len_str (by rfl) M.len_ (by decide +kernel) (pa_cons (pv 1) pa_nil)) pe_int) pa_nil))) (pa_cons (pe_cal cDraw hg hr (by rfl) (pa_cons (pv 0) (pa_cons (pe_callB call_len_seq (by rfl) M.len_ (by decide +kernel) (pa_cons (pv 3) pa_nil)) pa_nil))) pa_nil)) (by rfl))
  (pss_cons (ps_set (i := 6) scChanged.nd rfl (.inl rfl) (pe_cal cPick hg hr (by rfl) (pa_cons (pv 0) (pa_cons (pe_op op_cat (pe_callTy (call_listS rfl) (by rfl) M.list_ (by decide +kernel) (pa_cons pe_str pa_nil)) (pe_lst (pa_cons pe_str (pa_cons pe_str (pa_cons pe_str (pa_cons pe_str (pa_cons pe_str pa_nil))))))) pa_nil))))
  (pss_cons (ps_par (i := 7) (j := 8) (by rfl) scChanged.nd rfl rfl (by decide) rfl rfl (pa_cons (pe_slice sl_list (pv 3) po_none (po_some (pv 5))) (pa_cons (pe_slice sl_list (pv 3) (po_some (pv 5)) po_none) pa_nil)) (by rfl))
  (pss_cons (ps_if (pt_cmpR op_lt (pv 2) pe_int (nomark _))
    (pss_one (ps_ret (pe_op op_add_str (pe_op op_add_str (pe_slice sl_str (pv 1) po_none (po_some (pv 4))) (pv 6)) (pe_slice sl_str (pv 1) (po_some (pv 4)) po_none))))
    pss_nil)
  (pss_cons (ps_if (pt_cmpR op_lt (pv 2) pe_int (nomark _))
    (pss_one (ps_ret (pe_op op_add_str (pe_slice sl_str (pv 1) po_none (po_some (pv 4))) (pe_slice sl_str (pv 1) (po_some (pe_op op_add (pv 4) pe_int)) po_none))))
    pss_nil)
  (pss_cons (ps_if (pt_cmpR op_eq (pv 2) pe_int (nomark _))
    (pss_one (ps_ret (pe_op op_add_str (pe_op op_add_str (pe_slice sl_str (pv 1) po_none (po_some (pv 4))) (pv 6)) (pe_slice sl_str (pv 1) (po_some (pe_op op_add (pv 4) pe_int)) po_none))))
    pss_nil)
  (pss_cons (ps_if (pt_cmpR op_eq (pv 2) pe_int (nomark _))
    (pss_one (ps_ret (pe_join pe_str (pe_op op_cat (pv 7) (pe_slice sl_list (pv 8) (po_some pe_int) po_none)))))
    pss_nil)
  (pss_cons (ps_if (pt_cmpR op_eq (pv 2) pe_int (nomark _))
    (pss_one (ps_ret (pe_join pe_str (pe_op op_cat (pe_op op_cat (pv 7) (pe_slice sl_list (pv 8) po_none (po_some pe_int))) (pv 8)))))
    pss_nil)
  (pss_cons (ps_if (pt_cmpR op_eq (pv 2) pe_int (nomark _))
    (pss_one (ps_ret (pe_join pe_str (pe_op op_cat (pe_op op_cat (pv 7) (pe_revL (pe_slice sl_list (pv 8) po_none (po_some pe_int)))) (pe_slice sl_list (pv 8) (po_some pe_int) po_none)))))
    pss_nil)
  (pss_one (ps_ret (pe_cal cPick hg hr (by rfl) (pa_cons (pv 0) (pa_cons (pe_lst (pa_cons (pe_op op_add_str (pv 1) pe_str) (pa_cons (pe_op op_add_str (pv 1) pe_str) (pa_cons (pe_op op_add_str pe_str (pv 1)) (pa_cons (pe_op op_add_str pe_str (pv 1)) (pa_cons pe_str pa_nil)))))) pa_nil))))))))))))))), ?_⟩
  refine ⟨_, rfl, u, 9, _, rfl, hU, by omega, by decide, big_lt (by decide) (by decide), fun way H1 w0 w1 hU1 b1 => ?_⟩
  refine ⟨_, rfl, ⟨_, rfl⟩, _, _, rfl, rfl, by decide +kernel, by rw [sizeLine_eq]; omega, fun pl npl => ?_⟩
  have pc := split_count (x := y) nl_tl nl_hk
  have pc : (Txt.split y "\n").length = cnl y + 1 := pc
  have s2 := same_new (H := H1) (o := .lst ((Txt.split y "\n").map V.str)) npl
  have hpl := upd_same (H := H1) (a := pl) (o := .lst ((Txt.split y "\n").map V.str))
  have nup := hU1.ne npl
  have hU2 := hU1.same s2
  have b2 : But u H _ := b1.trans (But.same s2)
  generalize upd H1 pl (.lst ((Txt.split y "\n").map V.str)) = H2 at s2 hpl hU2 b2 ⊢
  refine ⟨_, _, rfl, ?_⟩
  refine ⟨_, rfl, _, rfl, y, rfl, by rw [sizeLine_eq]; omega, _, _, rfl, rfl, u, (y.length : Int) + 1, _, rfl, hU2, by omega, by omega, big_lt (by omega) (by omega), fun at' H3 a0 a1 hU3 b3 => ?_⟩
  have hpl3 := b3 _ _ nup hpl
  have pl0 : ((Txt.split y "\n").map V.str).length = cnl y + 1 := by rw [List.length_map, pc]
  refine ⟨_, rfl, _, rfl, pl, _, rfl, .inl (SqL.of hpl3), ?_⟩
  rw [pl0]
  refine ⟨u, _, _, rfl, hU3, by omega, by omega, big_lt (by omega) (by omega), fun spot H4 p0 p1 hU4 b4 => ?_⟩
  have hpl4 := b4 _ _ nup hpl3
  have b24 : But u H H4 := b2.trans (b3.trans b4)
  refine ⟨_, _, rfl, ?_⟩
  obtain ⟨i, rfl⟩ : ∃ i : Nat, at' = (i : Int) := ⟨at'.toNat, by omega⟩
  obtain ⟨j, rfl⟩ : ∃ j : Nat, spot = (j : Int) := ⟨spot.toNat, by omega⟩
  have s13 : (sgn " }{0195\n-xset").length = 13 := by decide +kernel
  refine ⟨_, rfl, " }{0195\n-xset", rfl, by rw [sizeLine_eq]; decide +kernel, fun l1 n1 => ?_⟩
  have s5 := same_new (H := H4) (o := .lst (sgn " }{0195\n-xset")) n1
  have h51 := upd_same (H := H4) (a := l1) (o := .lst (sgn " }{0195\n-xset"))
  generalize eS : sgn " }{0195\n-xset" = S at s5 h51 s13 ⊢
  generalize upd H4 l1 (.lst S) = H5 at s5 h51 ⊢
  refine ⟨(by show 5 ≤ sizeLine; decide), fun l2 n2 => ?_⟩
  have s6 := same_new (H := H5) (o := .lst [V.str "loop 3 {\n", V.str "\n}", V.str "  ", V.str "2001", V.str " 0"]) n2
  have h62 := upd_same (H := H5) (a := l2) (o := .lst [V.str "loop 3 {\n", V.str "\n}", V.str "  ", V.str "2001", V.str " 0"])
  generalize upd H5 l2 (.lst [V.str "loop 3 {\n", V.str "\n}", V.str "  ", V.str "2001", V.str " 0"]) = H6 at s6 h62 ⊢
  refine ⟨l1, l2, _, _, rfl, rfl, s6 _ _ h51, h62, by rw [s13, sizeLine_eq]; show 13 + 5 ≤ _; decide, fun l3 n3 => ?_⟩
  have s7 := same_new (H := H6) (o := .lst (S ++ [V.str "loop 3 {\n", V.str "\n}", V.str "  ", V.str "2001", V.str " 0"])) n3
  have h73 := upd_same (H := H6) (a := l3) (o := .lst (S ++ [V.str "loop 3 {\n", V.str "\n}", V.str "  ", V.str "2001", V.str " 0"]))
  generalize upd H6 l3 (.lst (S ++ [V.str "loop 3 {\n", V.str "\n}", V.str "  ", V.str "2001", V.str " 0"])) = H7 at s7 h73 ⊢
  have s47 := s5.trans (s6.trans s7)
  have hU7 := hU4.same s47
  have nl3 := ((hU4.same s5).same s6).ne n3
  refine ⟨u, l3, _, _, rfl, hU7, by omega, nl3, SqL.of h73, (by simp), (by rw [List.length_append, s13]; decide), fun sv H8 ms hU8 b8 => ?_⟩
  have so : SgnOk sv := by
    rcases List.mem_append.mp ms with m | m
    · rw [← eS] at m
      exact sgn_ok _ _ m
    · simp only [List.mem_cons, List.not_mem_nil, or_false] at m
      rcases m with rfl | rfl | rfl | rfl | rfl <;> exact ⟨_, rfl, by decide +kernel, by decide +kernel⟩
  obtain ⟨g, rfl, gl, gc⟩ := so
  have hpl8 := b8 _ _ nup (s47 _ _ hpl4)
  have b28 : But u H H8 := b24.trans ((But.same s47).trans b8)
  generalize eP : Txt.split y "\n" = ps at hpl8 pc
  refine ⟨_, rfl, _, rfl, _, rfl, pl, _, rfl, SqL.of hpl8, fun la na => ?_⟩
  rw [cut_to, ← List.map_take]
  have s9 := same_new (H := H8) (o := .lst ((ps.take j).map V.str)) na
  have ha := upd_same (H := H8) (a := la) (o := .lst ((ps.take j).map V.str))
  have nau := hU8.ne na
  generalize upd H8 la (.lst ((ps.take j).map V.str)) = H9 at s9 ha ⊢
  refine ⟨_, rfl, _, rfl, _, rfl, pl, _, rfl, SqL.of (s9 _ _ hpl8), fun lh nh => ?_⟩
  rw [cut_fromV, ← List.map_drop]
  have s10 := same_new (H := H9) (o := .lst ((ps.drop j).map V.str)) nh
  have hh := upd_same (H := H9) (a := lh) (o := .lst ((ps.drop j).map V.str))
  generalize upd H9 lh (.lst ((ps.drop j).map V.str)) = H10 at s10 hh ⊢
  have ha := s10 _ _ ha
  refine ⟨_, _, rfl, ?_⟩
  have hU10 := (hU8.same s9).same s10
  have b10 : But u H H10 := b28.trans (But.same (s9.trans s10))
  have done : ∀ z H', ChgOk y z → Same H10 H' → Q (.str z) H' := fun z H' hz s => q z H' hz ((hU10.up (by omega)).same s) (b10.trans (But.same s))
  have sps : sums ps + cnl y = y.length := by
    rw [← eP]
    exact split_sum nl_tl nl_hk
  have fin : ∀ (zs : List Str), (∀ z ∈ zs, z ∈ ps) → zs.length ≤ ps.length + 1 → sums zs ≤ 2 * sums ps → ∀ l H', Same H10 H' → H' l = some (.lst (zs.map V.str)) →
      ∃ (a : Str) (p : Addr) (ys : List Str), V.str "\n" = V.str a ∧ [V.ref l] = [V.ref p] ∧ (SqL K H' p (ys.map V.str) ∨ SqT K H' p (ys.map V.str)) ∧ (ys.map (·.length)).sum + ys.length * a.length ≤ sizeLine ∧ Q (.str (Txt.join a ys)) H' := fun zs zm zl zsm l H' s hl => by
    have d1 : ("\n" : Str).length = 1 := by decide +kernel
    refine ⟨_, l, zs, rfl, rfl, .inl (SqL.of hl), ?_, done _ _ (chg_join (by rw [eP]; exact zm) (by rw [eP]; exact zl) (by rw [eP]; exact zsm)) s⟩
    rw [d1, sizeLine_eq]
    unfold sums at zsm sps
    omega
  refine ⟨_, rfl, _, _, rfl, rfl, _, rfl, ?_⟩
  by_cases w2 : way < 2
  · refine iteP w2 ?_
    obtain ⟨c1, c2⟩ := cut_both y (Nat.le_refl i)
    refine ⟨_, rfl, _, rfl, _, rfl, y, rfl, by rw [sizeLine_eq]; omega, _, rfl, _, _, rfl, rfl, by rw [sizeLine_eq]; omega, _, rfl, _, rfl, _, rfl, y, rfl, by rw [sizeLine_eq]; omega, _, _, rfl, rfl, by rw [app_len, sizeLine_eq]; omega, ?_⟩
    exact done _ _ ⟨by rw [app_len, app_len]; omega, by rw [cnl_app, cnl_app]; omega⟩ (Same.refl _)
  refine iteN w2 ?_
  refine ⟨_, rfl, _, _, rfl, rfl, _, rfl, ?_⟩
  by_cases w4 : way < 4
  · refine iteP w4 ?_
    obtain ⟨c1, c2⟩ := cut_both y (Nat.le_add_right i 1)
    refine ⟨_, rfl, _, rfl, _, rfl, y, rfl, by rw [sizeLine_eq]; omega, _, rfl, _, rfl, _, _, rfl, rfl, _, rfl, y, rfl, by rw [sizeLine_eq]; omega, ?_⟩
    rw [show (i : Int) + 1 = ((i + 1 : Nat) : Int) by omega]
    refine ⟨_, _, rfl, rfl, by rw [sizeLine_eq]; omega, ?_⟩
    exact done _ _ ⟨by rw [app_len]; omega, by rw [cnl_app]; omega⟩ (Same.refl _)
  refine iteN w4 ?_
  refine ⟨_, rfl, rfl, _, rfl, ?_⟩
  by_cases e4 : way = 4
  · refine iteP (congrArg V.int e4) ?_
    obtain ⟨c1, c2⟩ := cut_both y (Nat.le_add_right i 1)
    refine ⟨_, rfl, _, rfl, _, rfl, y, rfl, by rw [sizeLine_eq]; omega, _, rfl, _, _, rfl, rfl, by rw [sizeLine_eq]; omega, _, rfl, _, rfl, _, _, rfl, rfl, _, rfl, y, rfl, by rw [sizeLine_eq]; omega, ?_⟩
    rw [show (i : Int) + 1 = ((i + 1 : Nat) : Int) by omega]
    refine ⟨_, _, rfl, rfl, by rw [app_len, sizeLine_eq]; omega, ?_⟩
    exact done _ _ ⟨by rw [app_len, app_len]; omega, by rw [cnl_app, cnl_app]; omega⟩ (Same.refl _)
  refine iteN (fun e => e4 (V.int.inj e)) ?_
  refine ⟨_, rfl, rfl, _, rfl, ?_⟩
  by_cases e5 : way = 5
  · refine iteP (congrArg V.int e5) ?_
    refine ⟨⟨_, rfl⟩, _, rfl, _, rfl, 1, rfl, lh, _, rfl, SqL.of hh, fun l4 n4 => ?_⟩
    rw [show cutV ((ps.drop j).map V.str) (some 1) none = ((ps.drop j).drop 1).map V.str from (cut_fromV _ 1).trans (by simp only [List.map_drop])]
    have s11 := same_new (H := H10) (o := .lst (((ps.drop j).drop 1).map V.str)) n4
    have h4 := upd_same (H := H10) (a := l4) (o := .lst (((ps.drop j).drop 1).map V.str))
    generalize upd H10 l4 (.lst (((ps.drop j).drop 1).map V.str)) = H11 at s11 h4 ⊢
    refine ⟨la, l4, _, _, rfl, rfl, s11 _ _ ha, h4, by rw [List.length_map, List.length_map, List.length_take, List.length_drop, List.length_drop, sizeLine_eq]; omega, fun l5 n5 => ?_⟩
    rw [← List.map_append]
    generalize ez : ps.take j ++ (ps.drop j).drop 1 = zs
    have s12 := same_new (H := H11) (o := .lst (zs.map V.str)) n5
    have zm : ∀ z ∈ zs, z ∈ ps := fun z mz => by
      rw [← ez] at mz
      rcases List.mem_append.mp mz with m | m
      · exact List.mem_of_mem_take m
      · exact List.mem_of_mem_drop (List.mem_of_mem_drop m)
    have zl : zs.length ≤ ps.length + 1 := by
      rw [← ez, List.length_append, List.length_take, List.length_drop, List.length_drop]
      omega
    have zsm : sums zs ≤ 2 * sums ps := by
      have h1 := sums_cut ps j
      have h2 := sums_cut (ps.drop j) 1
      rw [← ez, sums_app]
      omega
    exact fin zs zm zl zsm l5 _ (s11.trans s12) upd_same
  refine iteN (fun e => e5 (V.int.inj e)) ?_
  refine ⟨_, rfl, rfl, _, rfl, ?_⟩
  by_cases e6 : way = 6
  · refine iteP (congrArg V.int e6) ?_
    refine ⟨⟨_, rfl⟩, _, rfl, _, rfl, 1, rfl, lh, _, rfl, SqL.of hh, fun l4 n4 => ?_⟩
    rw [show cutV ((ps.drop j).map V.str) none (some 1) = ((ps.drop j).take 1).map V.str from (cut_to _ 1).trans (by rw [List.map_take])]
    have s11 := same_new (H := H10) (o := .lst (((ps.drop j).take 1).map V.str)) n4
    have h4 := upd_same (H := H10) (a := l4) (o := .lst (((ps.drop j).take 1).map V.str))
    generalize upd H10 l4 (.lst (((ps.drop j).take 1).map V.str)) = H11 at s11 h4 ⊢
    refine ⟨la, l4, _, _, rfl, rfl, s11 _ _ ha, h4, by rw [List.length_map, List.length_map, List.length_take, List.length_take, List.length_drop, sizeLine_eq]; omega, fun l5 n5 => ?_⟩
    rw [← List.map_append]
    have s12 := same_new (H := H11) (o := .lst ((ps.take j ++ (ps.drop j).take 1).map V.str)) n5
    have h5 := upd_same (H := H11) (a := l5) (o := .lst ((ps.take j ++ (ps.drop j).take 1).map V.str))
    generalize upd H11 l5 (.lst ((ps.take j ++ (ps.drop j).take 1).map V.str)) = H12 at s12 h5 ⊢
    refine ⟨_, rfl, l5, lh, _, _, rfl, rfl, h5, s12 _ _ (s11 _ _ hh), by rw [List.length_map, List.length_map, List.length_append, List.length_take, List.length_take, List.length_drop, sizeLine_eq]; omega, fun l6 n6 => ?_⟩
    rw [← List.map_append]
    generalize ez : (ps.take j ++ (ps.drop j).take 1) ++ ps.drop j = zs
    have s13 := same_new (H := H12) (o := .lst (zs.map V.str)) n6
    have zm : ∀ z ∈ zs, z ∈ ps := fun z mz => by
      rw [← ez] at mz
      rcases List.mem_append.mp mz with m | m
      · rcases List.mem_append.mp m with m | m
        · exact List.mem_of_mem_take m
        · exact List.mem_of_mem_drop (List.mem_of_mem_take m)
      · exact List.mem_of_mem_drop m
    have zl : zs.length ≤ ps.length + 1 := by
      rw [← ez, List.length_append, List.length_append, List.length_take, List.length_take, List.length_drop]
      omega
    have zsm : sums zs ≤ 2 * sums ps := by
      have h1 := sums_cut ps j
      have h2 := sums_cut (ps.drop j) 1
      rw [← ez, sums_app, sums_app]
      omega
    exact fin zs zm zl zsm l6 _ (s11.trans (s12.trans s13)) upd_same
  refine iteN (fun e => e6 (V.int.inj e)) ?_
  refine ⟨_, rfl, rfl, _, rfl, ?_⟩
  by_cases e7 : way = 7
  · refine iteP (congrArg V.int e7) ?_
    refine ⟨⟨_, rfl⟩, _, rfl, _, rfl, 2, rfl, lh, _, rfl, SqL.of hh, fun l4 n4 => ?_⟩
    rw [show cutV ((ps.drop j).map V.str) none (some 2) = ((ps.drop j).take 2).map V.str from (cut_to _ 2).trans (by rw [List.map_take])]
    have s11 := same_new (H := H10) (o := .lst (((ps.drop j).take 2).map V.str)) n4
    have h4 := upd_same (H := H10) (a := l4) (o := .lst (((ps.drop j).take 2).map V.str))
    generalize upd H10 l4 (.lst (((ps.drop j).take 2).map V.str)) = H11 at s11 h4 ⊢
    refine ⟨l4, _, rfl, SqL.of h4, fun l5 n5 => ?_⟩
    rw [← List.map_reverse]
    generalize eR : ((ps.drop j).take 2).reverse = rs
    have rl : rs.length ≤ ps.length - j := by
      rw [← eR, List.length_reverse, List.length_take, List.length_drop]
      omega
    have s12 := same_new (H := H11) (o := .lst (rs.map V.str)) n5
    have h5 := upd_same (H := H11) (a := l5) (o := .lst (rs.map V.str))
    generalize upd H11 l5 (.lst (rs.map V.str)) = H12 at s12 h5 ⊢
    have s02 := s11.trans s12
    refine ⟨la, l5, _, _, rfl, rfl, s02 _ _ ha, h5, by rw [List.length_map, List.length_map, List.length_take, sizeLine_eq]; omega, fun l6 n6 => ?_⟩
    rw [← List.map_append]
    have s13 := same_new (H := H12) (o := .lst ((ps.take j ++ rs).map V.str)) n6
    have h6 := upd_same (H := H12) (a := l6) (o := .lst ((ps.take j ++ rs).map V.str))
    generalize upd H12 l6 (.lst ((ps.take j ++ rs).map V.str)) = H13 at s13 h6 ⊢
    have s03 := s02.trans s13
    refine ⟨_, rfl, 2, rfl, lh, _, rfl, SqL.of (s03 _ _ hh), fun l7 n7 => ?_⟩
    rw [show cutV ((ps.drop j).map V.str) (some 2) none = ((ps.drop j).drop 2).map V.str from (cut_fromV _ 2).trans (by simp only [List.map_drop])]
    have s14 := same_new (H := H13) (o := .lst (((ps.drop j).drop 2).map V.str)) n7
    have h7 := upd_same (H := H13) (a := l7) (o := .lst (((ps.drop j).drop 2).map V.str))
    generalize upd H13 l7 (.lst (((ps.drop j).drop 2).map V.str)) = H14 at s14 h7 ⊢
    refine ⟨l6, l7, _, _, rfl, rfl, s14 _ _ h6, h7, by rw [List.length_map, List.length_map, List.length_append, List.length_take, List.length_drop, List.length_drop, sizeLine_eq]; omega, fun l8 n8 => ?_⟩
    rw [← List.map_append]
    generalize ez : (ps.take j ++ rs) ++ (ps.drop j).drop 2 = zs
    have s15 := same_new (H := H14) (o := .lst (zs.map V.str)) n8
    have zm : ∀ z ∈ zs, z ∈ ps := fun z mz => by
      rw [← ez] at mz
      rcases List.mem_append.mp mz with m | m
      · rcases List.mem_append.mp m with m | m
        · exact List.mem_of_mem_take m
        · rw [← eR] at m
          exact List.mem_of_mem_drop (List.mem_of_mem_take (List.mem_reverse.mp m))
      · exact List.mem_of_mem_drop (List.mem_of_mem_drop m)
    have zl : zs.length ≤ ps.length + 1 := by
      have dl : (ps.drop j).length = ps.length - j := by rw [List.length_drop]
      have d2 : ((ps.drop j).drop 2).length = (ps.drop j).length - 2 := by rw [List.length_drop]
      rw [← ez, ← eR, List.length_append, List.length_append, List.length_reverse, List.length_take, List.length_take, d2]
      omega
    have zsm : sums zs ≤ 2 * sums ps := by
      have h1 := sums_cut ps j
      have h2 := sums_cut (ps.drop j) 2
      rw [← ez, ← eR, sums_app, sums_app, sums_rev]
      omega
    exact fin zs zm zl zsm l8 _ (s03.trans (s14.trans s15)) upd_same
  refine iteN (fun e => e7 (V.int.inj e)) ?_
  have T2 : ∀ (x : Str), x.length ≤ 11 → cnl x ≤ 2 → ChgOk y (y ++ x) ∧ ChgOk y (x ++ y) := fun x h1 h2 => ⟨⟨by rw [app_len]; omega, by rw [cnl_app]; omega⟩, ⟨by rw [app_len]; omega, by rw [cnl_app]; omega⟩⟩
  refine ⟨_, rfl, _, rfl, _, _, rfl, rfl, by rw [sizeLine_eq]; show y.length + 1 ≤ _; omega, _, rfl, _, _, rfl, rfl, by rw [sizeLine_eq]; show y.length + 2 ≤ _; omega, _, rfl, _, _, rfl, rfl, by rw [sizeLine_eq]; show 9 + y.length ≤ _; omega, _, rfl, _, _, rfl, rfl, by rw [sizeLine_eq]; show 2 + y.length ≤ _; omega, by rw [sizeLine_eq]; exact Nat.le_of_ble_eq_true rfl, fun l4 n4 => ?_⟩
  generalize eX : [V.str (y ++ "\n"), V.str (y ++ "\n}"), V.str ("loop 2 {\n" ++ y), V.str ("  " ++ y), V.str "loop 2001 {\n  read 0\n}"] = X5
  have s11 := same_new (H := H10) (o := .lst X5) n4
  have h4 := upd_same (H := H10) (a := l4) (o := .lst X5)
  have n4u := hU10.ne n4
  generalize upd H10 l4 (.lst X5) = H11 at s11 h4 ⊢
  have l5 : X5.length = 5 := by rw [← eX]; rfl
  have x5 : ∀ v ∈ X5, ∃ z, v = .str z ∧ ChgOk y z := fun v mv => by
    rw [← eX] at mv
    simp only [List.mem_cons, List.not_mem_nil, or_false] at mv
    rcases mv with rfl | rfl | rfl | rfl | rfl
    · exact ⟨_, rfl, (T2 _ (by decide +kernel) (by decide +kernel)).1⟩
    · exact ⟨_, rfl, (T2 _ (by decide +kernel) (by decide +kernel)).1⟩
    · exact ⟨_, rfl, (T2 _ (by decide +kernel) (by decide +kernel)).2⟩
    · exact ⟨_, rfl, (T2 _ (by decide +kernel) (by decide +kernel)).2⟩
    · have a1 : ("loop 2001 {\n  read 0\n}" : Str).length ≤ 100 := by decide +kernel
      have a2 : cnl "loop 2001 {\n  read 0\n}" ≤ 2 := by decide +kernel
      exact ⟨_, rfl, by omega, by omega⟩
  refine ⟨u, l4, X5, _, rfl, hU10.same s11, by omega, n4u, SqL.of h4, (fun e => by rw [e] at l5; cases l5), by rw [l5]; decide, fun v H12 mv hU12 b12 => ?_⟩
  obtain ⟨z, rfl, hz⟩ := x5 v mv
  exact q z H12 hz (hU12.up (by omega)) (b10.trans ((But.same s11).trans b12))
end
end K58
set_option Elab.async false
set_option linter.all false
set_option maxRecDepth 100000
set_option pp.maxSteps 500
set_option pp.deepTerms.threshold 8
set_option pp.deepTerms false
namespace K58
open PySem PySem.Spec PyProof.Rows L2 Lj
def spLaw (K : PySem.W.Frag) : Sp := fun vs H Q _ => ∃ (a : Addr) (ns : List Int), vs = [.ref a] ∧ SqL K H a (ns.map V.int) ∧ ns.length ≤ 63 ∧ ∀ H', Q (.bl true) H'
section
variable {P : Program} {w : World} {K : PySem.W.Frag} {mg : Str → Option Value} {base : Heap}
open TL
def spTdR (K : PySem.W.Frag) : Sp := fun vs H Q _ => ∃ (p n : Int) (v : V) (dv : PyData), vs = [.int p, .int n, v] ∧ Dd K H v dv ∧ p ≤ 10007 ∧ n ≤ 8 ∧
  ((∃ y : Str, dv = .str y ∧ y.length ≤ 7000000 ∧ cnl y ≤ 400 ∧ ∀ H' t, Same H H' → Dp K H' (.ref t) (resD (rdP p n y)) → Q (.ref t) H') ∨
    ((∀ y, dv ≠ .str y) ∧ ∀ H' t, Same H H' → Dp K H' (.ref t) (resD (.inr 0)) → Q (.ref t) H'))
theorem dp_inl {H : Hp} {t : Addr} {v : V} {b : List Tr} (sq : SqT K H t [v, .non]) (hB : BodyAt K H b v) : Dp K H (.ref t) (resD (.inl b)) := by
  obtain ⟨c, us, rfl, sq2, tr⟩ := hB
  exact .tup sq (.cons (.tup sq2 (trs_dp b us tr)) (.cons .non .nil))
theorem dp_inr {H : Hp} {t : Addr} {i : Nat} (sq : SqT K H t [.non, .int (i : Int)]) : Dp K H (.ref t) (resD (.inr i)) := .tup sq (.cons .non (.cons (.int _) .nil))
theorem told_r {k : Nat} (h : Has P w K mg base k "_law_told" ["_law_p", "_law_n", "_law_text"] (spTdA K)) : Has P w K mg base k "_law_told" ["_law_p", "_law_n", "_law_text"] (spTdR K) := by
  refine h.weak fun vs H Q E ⟨p, n, v, dv, e, dd, p1, n1, q⟩ => ⟨p, n, v, dv, e, dd, p1, n1, ?_⟩
  rcases q with ⟨y, e, yl, yc, q⟩ | ⟨e, q⟩
  · exact .inl ⟨y, e, yl, yc, fun b hb H' t v' s sq hB => q H' t s (by rw [hb]; exact dp_inl sq hB), fun i hi H' t s sq => q H' t s (by rw [hi]; exact dp_inr sq)⟩
  · exact .inr ⟨e, fun H' t s sq => q H' t s (dp_inr (i := 0) sq)⟩
def spLrR (K : PySem.W.Frag) : Sp := fun vs H Q _ => ∃ (p n : Int) (y : Str), vs = [.int p, .int n, .str y] ∧ y.length ≤ 7000000 ∧ cnl y ≤ 400 ∧ p ≤ 10007 ∧ n ≤ 8 ∧ ∀ H' t, Same H H' → Dp K H' (.ref t) (resD (rdP p n y)) → Q (.ref t) H'
theorem lread_r {k : Nat} (h : Has P w K mg base k "_law_read" ["_law_p", "_law_n", "_law_text"] (spLrd K)) : Has P w K mg base k "_law_read" ["_law_p", "_law_n", "_law_text"] (spLrR K) := by
  refine h.weak fun vs H Q E ⟨p, n, y, e, yl, yc, p1, n1, q⟩ => ⟨p, n, y, e, yl, yc, p1, n1, fun b hb H' t v' s sq hB _ _ => q H' t s (by rw [hb]; exact dp_inl sq hB), fun i hi H' t s sq => q H' t s (by rw [hi]; exact dp_inr sq)⟩
theorem resD_ok {p n : Int} (p1 : p ≤ 10007) (n1 : n ≤ 8) {y : Str} (yc : cnl y ≤ 400) : (resD (rdP p n y)).showable = true ∧ (resD (rdP p n y)).hasDict = false ∧ (resD (rdP p n y)).depth ≤ 64 ∧ (resD (rdP p n y)).shown.length ≤ sizeLine := by
  have ll := lnsOf_len y
  cases h : rdP p n y with
  | inl b =>
    obtain ⟨dr, sz⟩ := rdP_good h
    exact resD_inl p1 n1 dr (by omega)
  | inr i =>
    have := rdP_le h
    exact resD_inr (by omega)
mutual
theorem Tr.dr_le57 {G : Str → List Int → Prop} {R : Int → Prop} : ∀ (t : Tr) (e e' : Nat), e ≤ e' → t.dr G R e → t.dr G R e'
  | .op z as, e, e', _, h => by
    rw [Tr.dr] at h ⊢
    exact h
  | .loop k b, 0, e', _, h => by
    rw [Tr.dr] at h
    exact h.elim
  | .loop k b, e + 1, 0, l, h => absurd l (by omega)
  | .loop k b, e + 1, e' + 1, l, h => by
    rw [Tr.dr] at h ⊢
    exact ⟨h.1, drs_le57 b e e' (by omega) h.2⟩
theorem drs_le57 {G : Str → List Int → Prop} {R : Int → Prop} : ∀ (b : List Tr) (e e' : Nat), e ≤ e' → drs G R b e → drs G R b e'
  | [], e, e', _, h => by
    rw [drs]
    trivial
  | t :: b, e, e', l, h => by
    rw [drs] at h ⊢
    exact ⟨Tr.dr_le57 t e e' l h.1, drs_le57 b e e' l h.2⟩
end
set_option maxHeartbeats 4000000 in
theorem ok_law (M : Bl mg) (F : At K mg "law" sLaw ["_law_script"]) {k : Nat} (h1 : Has P w K mg base k "_law_digits" ["_law_script", "_law_k"] (spPot K)) (h2 : Has P w K mg base k "_law_told" ["_law_p", "_law_n", "_law_text"] (spTdR K)) (h3 : Has P w K mg base k "_law_read" ["_law_p", "_law_n", "_law_text"] (spLrR K)) (h4 : Has P w K mg base k "_law_pick" ["_law_pot", "_law_items"] (spO K)) (h5 : Has P w K mg base k "_law_draw" ["_law_pot", "_law_upto"] spTk) (h6 : Has P w K mg base k "_law_nested_program" ["_law_pot", "_law_p", "_law_n", "_law_length", "_law_level"] (spNest K 5)) (h7 : Has P w K mg base k "_law_lines" ["_law_program", "_law_level"] (spLnsC K 5)) (h8 : Has P w K mg base k "_law_changed" ["_law_pot", "_law_text"] (spChg K)) : Has P w K mg base (k + 1) "law" ["_law_script"] (spLaw K) := by
  obtain ⟨_, _, cDigits⟩ := h1
  obtain ⟨_, _, cTold⟩ := h2
  obtain ⟨_, _, cRead⟩ := h3
  obtain ⟨_, _, cPick⟩ := h4
  obtain ⟨_, _, cDraw⟩ := h5
  obtain ⟨_, _, cNested_program⟩ := h6
  obtain ⟨_, _, cLines⟩ := h7
  obtain ⟨_, _, cChanged⟩ := h8
  refine Has.by F scLaw (fun vs H Q E h => ?_) (fun f cdv A out s H vs Q E hg hr h => ?_)
  · obtain ⟨a, ns, rfl, _⟩ := h
    rfl
  obtain ⟨a, ns, rfl, hS, hl, q⟩ := h
  refine ⟨_, (pss_cons (ps_for PassesOwn.never rfl (pi_range1 (by rfl) M.range_ (pa_cons (pe_callB (call_max2 rfl) (by rfl) M.max_ (by decide +kernel) (pa_cons pe_int (pa_cons (pe_callB (call_min2 rfl) (by rfl) M.min_ (by decide +kernel) (pa_cons pe_int (pa_cons (pe_callB call_len_seq (by rfl) M.len_ (by decide +kernel) (pa_cons (pv 0) pa_nil)) pa_nil))) pa_nil))) pa_nil)) (pg_name (i := 1) scLaw.nd rfl (.inl rfl))
    (pss_cons (ps_set (i := 2) scLaw.nd rfl (.inl rfl) (pe_cal cDigits hg hr (by rfl) (pa_cons (pv 0) (pa_cons (pv 1) pa_nil))))
  (pss_cons (ps_for PassesOwn.never rfl (pi_range1 (by rfl) M.range_ (pa_cons pe_int pa_nil)) (pg_name (i := 3) scLaw.nd rfl (.inl rfl))
    (pss_cons (ps_par (i := 4) (j := 5) (by rfl) scLaw.nd rfl rfl (by decide) rfl rfl (pa_cons (pe_cal cPick hg hr (by rfl) (pa_cons (pv 2) (pa_cons (pe_lst (pa_cons pe_int (pa_cons pe_int (pa_cons pe_int (pa_cons pe_int pa_nil))))) pa_nil))) (pa_cons (pe_op op_add pe_int (pe_cal cDraw hg hr (by rfl) (pa_cons (pv 2) (pa_cons pe_int pa_nil)))) pa_nil)) (by rfl))
  (pss_cons (ps_set (i := 6) scLaw.nd rfl (.inl rfl) (pe_join pe_str (pe_cal cLines hg hr (by rfl) (pa_cons (pe_cal cNested_program hg hr (by rfl) (pa_cons (pv 2) (pa_cons (pv 4) (pa_cons (pv 5) (pa_cons pe_int (pa_cons (pe_cal cDraw hg hr (by rfl) (pa_cons (pv 2) (pa_cons pe_int pa_nil))) pa_nil)))))) (pa_cons pe_int pa_nil)))))
  (pss_one (ps_for PassesOwn.never rfl (pi_range1 (by rfl) M.range_ (pa_cons pe_int pa_nil)) (pg_name (i := 7) scLaw.nd rfl (.inl rfl))
    (pss_cons (ps_set (i := 6) scLaw.nd rfl (.inl rfl) (pe_ifExp (PW.pt (pw_or (pt_cmpR op_eq (pe_op op_mod (pv 7) pe_int) pe_int (nomark _)) (pw_or1 (pt_cmpR op_eq (pe_cal cDraw hg hr (by rfl) (pa_cons (pv 2) (pa_cons pe_int pa_nil))) pe_int (nomark _))))) (pe_cal cChanged hg hr (by rfl) (pa_cons (pv 2) (pa_cons (pv 6) pa_nil))) (pv 6)))
  (pss_one (ps_if (pt_cmpR op_ne (pe_callB (call_reprD hg hr) (by rfl) M.repr_ (by decide +kernel) (pa_cons (pe_cal cTold hg hr (by rfl) (pa_cons (pv 4) (pa_cons (pv 5) (pa_cons (pv 6) pa_nil)))) pa_nil)) (pe_callB (call_reprD hg hr) (by rfl) M.repr_ (by decide +kernel) (pa_cons (pe_cal cRead hg hr (by rfl) (pa_cons (pv 4) (pa_cons (pv 5) (pa_cons (pv 6) pa_nil)))) pa_nil)) (nomark _))
    (pss_one (ps_ret pe_bl))
    pss_nil))))))))
  (pss_cons (ps_for PassesOwn.never rfl (pi_tup (pe_tup (pa_cons pe_non (pa_cons pe_int (pa_cons pe_bl (pa_cons (pe_tup pa_nil) (pa_cons (pe_tup (pa_cons pe_str pa_nil)) (pa_cons (pe_lst (pa_cons pe_str pa_nil)) (pa_cons pe_dnewK pa_nil))))))))) (pg_name (i := 8) scLaw.nd rfl (.inl rfl))
    (pss_one (ps_if (pt_cmpR op_ne (pe_callB (call_reprD hg hr) (by rfl) M.repr_ (by decide +kernel) (pa_cons (pe_cal cTold hg hr (by rfl) (pa_cons pe_int (pa_cons pe_int (pa_cons (pv 8) pa_nil)))) pa_nil)) pe_str (nomark _))
    (pss_one (ps_ret pe_bl))
    pss_nil)))
  (pss_cons (ps_set (i := 9) scLaw.nd rfl (.inl rfl) (pe_join pe_str (pe_op op_rep (pe_lst (pa_cons pe_str pa_nil)) pe_int)))
  (pss_one (ps_if (PW.pt (pw_or (pt_cmpR op_ne (pe_callB (call_reprD hg hr) (by rfl) M.repr_ (by decide +kernel) (pa_cons (pe_cal cTold hg hr (by rfl) (pa_cons pe_int (pa_cons pe_int (pa_cons (pv 9) pa_nil)))) pa_nil)) pe_str (nomark _)) (pw_or1 (pt_cmpR op_notN (pe_ix ix_tup (pe_cal cTold hg hr (by rfl) (pa_cons pe_int (pa_cons pe_int (pa_cons (pe_slice sl_str (pv 9) po_none (po_some (pe_un un_neg pe_int))) pa_nil)))) pe_int (fun _ _ => rfl)) pe_non (nomark _)))))
    (pss_one (ps_ret pe_bl))
    pss_nil)))))))
  (pss_one (ps_ret pe_bl))), ?_⟩
  have hlen : (ns.map V.int).length = ns.length := List.length_map _
  refine ⟨_, rfl, a, _, rfl, .inl hS, 2, _, rfl, 1, _, rfl, ?_⟩
  rw [hlen]
  obtain ⟨m, hm, hm3⟩ : ∃ m : Nat, (if (if (ns.length : Int) < 2 then (ns.length : Int) else 2) > 1 then (if (ns.length : Int) < 2 then (ns.length : Int) else 2) else 1) = (m : Int) ∧ m ≤ 2 := by
    refine ⟨(if (if (ns.length : Int) < 2 then (ns.length : Int) else 2) > 1 then (if (ns.length : Int) < 2 then (ns.length : Int) else 2) else 1).toNat, ?_, ?_⟩
    · split <;> split <;> omega
    · split <;> split <;> omega
  refine ⟨_, rfl, ?_, ?_, ?_⟩
  · rw [hm]; omega
  · rw [hm]; omega
  rw [hm]
  refine for_range (lo := 0) (n := m) (fun i σ H' => ∃ y1 y2 y3 y4 y5 y6 y7 y8 y9, σ = [some (.ref a), y1, y2, y3, y4, y5, y6, y7, y8, y9] ∧ Same H H') ⟨_, _, _, _, _, _, _, _, _, rfl, Same.refl _⟩ ?_ ?_
  · rintro i σ H1 hi ⟨y1, y2, y3, y4, y5, y6, y7, y8, y9, rfl, s1⟩
    refine ⟨_, rfl, _, rfl, a, ns, _, rfl, s1.seq hS, by omega, by omega, fun H5 u s2 nu hU5 => ?_⟩
    refine ⟨_, rfl, by decide, by decide, ?_⟩
    refine for_range (lo := 0) (n := 6) (fun j σ H' => ∃ y3 y4 y5 y6 y7, σ = [some (.ref a), some (.int (0 + (i : Nat))), some (.ref u), y3, y4, y5, y6, y7, y8, y9] ∧ Ur (j * 40000) H' u ∧ But u H5 H') ⟨_, _, _, _, _, rfl, hU5.up (by omega), But.refl _ _⟩ ?_ ?_
    · rintro j σ H6 hj ⟨y3, y4, y5, y6, y7, rfl, hU6, b6⟩
      refine ⟨_, rfl, (by show 4 ≤ sizeLine; decide), fun l nl => ?_⟩
      have s7 := same_new (H := H6) (o := .lst ([2, 3, 97, 10007].map V.int)) nl
      have hl7 := upd_same (H := H6) (a := l) (o := .lst ([2, 3, 97, 10007].map V.int))
      refine ⟨u, l, [2, 3, 97, 10007].map V.int, _, rfl, hU6.same s7, by omega, hU6.ne nl, SqL.of hl7, by simp, by simp, fun px H8 mp hU8 b8 => ?_⟩
      obtain ⟨p, mq, rfl⟩ := List.mem_map.mp mp
      have p23 : 2 ≤ p ∧ p ≤ 10007 := by
        simp only [List.mem_cons, List.not_mem_nil, or_false] at mq
        rcases mq with rfl | rfl | rfl | rfl <;> omega
      refine ⟨_, rfl, u, 8, _, rfl, hU8, by omega, by decide, big_lt (by decide) (by decide), fun n0 H9 n00 n01 hU9 b9 => ⟨1, n0, rfl, rfl, ?_⟩⟩
      refine ⟨_, _, rfl, ?_⟩
      have b9' : But u H5 H9 := ((b6.trans (But.same s7)).trans b8).trans b9
      refine ⟨⟨_, rfl⟩, _, rfl, _, rfl, _, rfl, _, rfl, u, 5, _, rfl, hU9, by omega, by decide, big_lt (by decide) (by decide), fun lv0 H10 lv00 lv01 hU10 b10 => ?_⟩
      obtain ⟨lv, rfl⟩ : ∃ lv : Nat, lv0 = (lv : Int) := ⟨lv0.toNat, by omega⟩
      have w25 := wsz_big (l := lv) (by omega)
      refine ⟨u, p, 1 + n0, 4, lv, _, rfl, by omega, by omega, by omega, hU10, by omega, p23.1, p23.2, by omega, by omega, fun b v mm H11 mm4 nb hb hU11 b11 => ?_⟩
      have lv4 : lv ≤ 4 := by omega
      have dr : drs (GoodOp p (1 + n0)) Rk18 b lv := nb.dr
      have dr4 : drs (GoodOp p (1 + n0)) Rk18 b 4 := drs_le57 b lv 4 lv4 dr
      have szb : szN b ≤ 124 := by
        have h1 := nb.sz
        have h2 : mm * zsz lv ≤ 4 * zsz lv := Nat.mul_le_mul_right _ mm4
        have h3 : zsz lv ≤ 31 := by
          have : lv = 0 ∨ lv = 1 ∨ lv = 2 ∨ lv = 3 ∨ lv = 4 := by omega
          rcases this with e | e | e | e | e <;> subst e <;> decide
        omega
      have hR : ∀ k, Rk18 k → 0 ≤ k ∧ k ≤ 10 ^ 18 := fun k h => h
      obtain ⟨gb, wb, rfl, sgb, tgb⟩ := hb
      refine ⟨.ref gb, p, 1 + n0, b, 0, lv, rfl, ⟨gb, wb, rfl, sgb, tgb⟩, dr, by omega, by omega, by omega, p23.2, by omega, fun H12 l12 s12 nl12 hl12 => ?_⟩
      have ok := lns_ok hR b 0 4 dr4
      have ll := lns_len b 0
      have sm := sum_le (B := 100) (l := (lns 0 b).map lnT) fun x mx => by
        obtain ⟨y, my, rfl⟩ := List.mem_map.mp mx
        obtain ⟨o1, o2⟩ := ok y my
        exact ln_len p23.2 (by omega) o1 (by omega)
      have ly := join_short ((lns 0 b).map lnT)
      have cy := join_cnl (l := (lns 0 b).map lnT) fun x mx => by
        obtain ⟨y, my, rfl⟩ := List.mem_map.mp mx
        obtain ⟨o1, o2⟩ := ok y my
        exact ln_free o1 (by omega)
      rw [List.length_map] at sm ly cy
      have d1 : ("\n" : Str).length = 1 := by decide +kernel
      refine ⟨_, l12, (lns 0 b).map lnT, rfl, rfl, .inl (SqL.of (by rw [List.map_map]; exact hl12)), ?_, ?_⟩
      · rw [List.length_map, d1]
        omega
      generalize eY : Txt.join "\n" ((lns 0 b).map lnT) = Y at ly cy ⊢
      have y0 : Y.length + 100 ≤ 25300 := by omega
      have c0 : cnl Y ≤ 250 := by omega
      have b12 : But u H5 H12 := ((b9'.trans b10).trans b11).trans (But.same s12)
      have hU12 := hU11.same s12
      refine ⟨_, rfl, by decide, by decide, ?_⟩
      refine for_range (lo := 0) (n := 8) (fun g σ H' => ∃ y7 Z, σ = [some (.ref a), some (.int (0 + (i : Nat))), some (.ref u), some (.int (0 + (j : Nat))), some (.int p), some (.int (1 + n0)), some (.str Z), y7, y8, y9] ∧ Z.length + 100 ≤ 25300 * 2 ^ g ∧ cnl Z ≤ 250 + 2 * g ∧ Ur (j * 40000 + 30000 + g * 20) H' u ∧ But u H5 H') ⟨_, Y, rfl, by omega, by omega, hU12.up (by omega), b12⟩ ?_ ?_
      · rintro g σ H13 hg8 ⟨y7, Z, rfl, zl, zc, hU13, b13⟩
        have p2 : 2 ^ (g + 1) = 2 * 2 ^ g := by rw [Nat.pow_succ]; omega
        have p7 : 2 ^ g ≤ 128 := Nat.pow_le_pow_right (by decide) (show g ≤ 7 by omega)
        refine ⟨_, rfl, _, _, rfl, rfl, (by show (0 : Int) < 2; decide), rfl, _, rfl, ?_⟩
        by_cases ev : (0 + (g : Int)) % 2 = 0
        · refine iteP (congrArg V.int ev) ?_
          refine ⟨_, rfl, _, rfl, u, Z, _, rfl, hU13, by omega, by omega, by omega, fun Z2 H14 ch hU14 b14' => ?_⟩
          have b14 := b13.trans b14'
          have zl' : Z2.length + 100 ≤ 25300 * 2 ^ (g + 1) := by
            rw [p2]
            have := ch.1
            omega
          have zc' : cnl Z2 ≤ 250 + 2 * (g + 1) := by
            have := ch.2
            omega
          have zc4 : cnl Z2 ≤ 400 := by omega
          have zl7 : Z2.length ≤ 7000000 := by
            rw [p2] at zl'
            omega
          obtain ⟨w1, w2, w3, w4⟩ := resD_ok (p := p) (n := 1 + n0) (y := Z2) p23.2 (by omega) zc4
          refine ⟨_, rfl, _, rfl, _, rfl, p, 1 + n0, .str Z2, .str Z2, rfl, .str _, p23.2, by omega, .inl ⟨Z2, rfl, zl7, zc4, fun H15 t1 s15 dp1 => ?_⟩⟩
          refine ⟨_, _, rfl, dp1, w1, w2, w3, w4, ?_⟩
          refine ⟨_, rfl, _, rfl, _, rfl, p, 1 + n0, Z2, rfl, zl7, zc4, p23.2, by omega, fun H16 t2 s16 dp2 => ?_⟩
          refine ⟨_, _, rfl, dp2, w1, w2, w3, w4, rfl, _, rfl, ifNN rfl ?_⟩
          exact ⟨_, Z2, rfl, zl', zc', (hU14.same (s15.trans s16)).up (by omega), b14.trans (But.same (s15.trans s16))⟩
        · refine iteN (fun e => ev (V.int.inj e)) ?_
          refine ⟨_, rfl, u, 2, _, rfl, hU13, by omega, by decide, big_lt (by decide) (by decide), fun dv Hd d0 d1 hUd bd => ?_⟩
          have b1d := b13.trans bd
          refine ⟨rfl, _, rfl, ?_⟩
          by_cases dz : dv = 0
          · refine iteP (congrArg V.int dz) ?_
            refine ⟨_, rfl, _, rfl, u, Z, _, rfl, hUd, by omega, by omega, by omega, fun Z2 H14 ch hU14 b14' => ?_⟩
            have b14 := b1d.trans b14'
            have zl' : Z2.length + 100 ≤ 25300 * 2 ^ (g + 1) := by
              rw [p2]
              have := ch.1
              omega
            have zc' : cnl Z2 ≤ 250 + 2 * (g + 1) := by
              have := ch.2
              omega
            have zc4 : cnl Z2 ≤ 400 := by omega
            have zl7 : Z2.length ≤ 7000000 := by
              rw [p2] at zl'
              omega
            obtain ⟨w1, w2, w3, w4⟩ := resD_ok (p := p) (n := 1 + n0) (y := Z2) p23.2 (by omega) zc4
            refine ⟨_, rfl, _, rfl, _, rfl, p, 1 + n0, .str Z2, .str Z2, rfl, .str _, p23.2, by omega, .inl ⟨Z2, rfl, zl7, zc4, fun H15 t1 s15 dp1 => ?_⟩⟩
            refine ⟨_, _, rfl, dp1, w1, w2, w3, w4, ?_⟩
            refine ⟨_, rfl, _, rfl, _, rfl, p, 1 + n0, Z2, rfl, zl7, zc4, p23.2, by omega, fun H16 t2 s16 dp2 => ?_⟩
            refine ⟨_, _, rfl, dp2, w1, w2, w3, w4, rfl, _, rfl, ifNN rfl ?_⟩
            exact ⟨_, Z2, rfl, zl', zc', (hU14.same (s15.trans s16)).up (by omega), b14.trans (But.same (s15.trans s16))⟩
          · refine iteN (fun e => dz (V.int.inj e)) ?_
            refine ⟨_, rfl, ?_⟩
            have zl' : Z.length + 100 ≤ 25300 * 2 ^ (g + 1) := by
              rw [p2]
              omega
            have zc' : cnl Z ≤ 250 + 2 * (g + 1) := by
              omega
            have zc4 : cnl Z ≤ 400 := by omega
            have zl7 : Z.length ≤ 7000000 := by
              rw [p2] at zl'
              omega
            obtain ⟨w1, w2, w3, w4⟩ := resD_ok (p := p) (n := 1 + n0) (y := Z) p23.2 (by omega) zc4
            refine ⟨_, rfl, _, rfl, _, rfl, p, 1 + n0, .str Z, .str Z, rfl, .str _, p23.2, by omega, .inl ⟨Z, rfl, zl7, zc4, fun H15 t1 s15 dp1 => ?_⟩⟩
            refine ⟨_, _, rfl, dp1, w1, w2, w3, w4, ?_⟩
            refine ⟨_, rfl, _, rfl, _, rfl, p, 1 + n0, Z, rfl, zl7, zc4, p23.2, by omega, fun H16 t2 s16 dp2 => ?_⟩
            refine ⟨_, _, rfl, dp2, w1, w2, w3, w4, rfl, _, rfl, ifNN rfl ?_⟩
            exact ⟨_, Z, rfl, zl', zc', (hUd.same (s15.trans s16)).up (by omega), b1d.trans (But.same (s15.trans s16))⟩
      · rintro σ H13 ⟨y7, Z, rfl, zl, zc, hU13, b13⟩
        exact ⟨_, _, _, _, _, rfl, hU13.up (by omega), b13⟩
    · rintro σ H6 ⟨y3, y4, y5, y6, y7, rfl, hU6, b6⟩
      have s16 : Same H H6 := s1.trans (same_but s2 nu b6)
      refine ⟨Nat.zero_le _, fun t0 nt0 => ?_⟩
      have z1 := same_new (H := H6) (o := .tup []) nt0
      have ht0 := upd_same (H := H6) (a := t0) (o := .tup [])
      generalize upd H6 t0 (.tup []) = J1 at z1 ht0 ⊢
      refine ⟨(by show 1 ≤ sizeLine; decide), fun t1 nt1 => ?_⟩
      have z2 := same_new (H := J1) (o := .tup [V.str "set 0 0"]) nt1
      have ht1 := upd_same (H := J1) (a := t1) (o := .tup [V.str "set 0 0"])
      generalize upd J1 t1 (.tup [V.str "set 0 0"]) = J2 at z2 ht1 ⊢
      refine ⟨(by show 1 ≤ sizeLine; decide), fun l1 nl1 => ?_⟩
      have z3 := same_new (H := J2) (o := .lst [V.str "set 0 0"]) nl1
      have hl1 := upd_same (H := J2) (a := l1) (o := .lst [V.str "set 0 0"])
      generalize upd J2 l1 (.lst [V.str "set 0 0"]) = J3 at z3 hl1 ⊢
      refine fun d1 nd1 => ?_
      have z4 := same_new (H := J3) (o := .dK []) nd1
      have hd1 := upd_same (H := J3) (a := d1) (o := .dK [])
      generalize upd J3 d1 (.dK []) = J4 at z4 hd1 ⊢
      refine ⟨(by show 7 ≤ sizeLine; decide), fun T7 nT7 => ?_⟩
      generalize eXs : [V.non, V.int 0, V.bl true, V.ref t0, V.ref t1, V.ref l1, V.ref d1] = xs7
      have z5 := same_new (H := J4) (o := .tup xs7) nT7
      have hT7 := upd_same (H := J4) (a := T7) (o := .tup xs7)
      generalize upd J4 T7 (.tup xs7) = J5 at z5 hT7 ⊢
      have dd7 : DdAll K J5 xs7 [.none, .int 0, .bool true, .tuple [], .tuple [.str "set 0 0"], .list [.str "set 0 0"], .dict []] := by
        rw [← eXs]
        have y4 := z4.trans z5
        have y3 := z3.trans y4
        have y2 := z2.trans y3
        exact .cons .non (.cons (.int 0) (.cons (.bl true) (.cons (.tup (SqT.of (y2 _ _ ht0)) .nil) (.cons (.tup (SqT.of (y3 _ _ ht1)) (.cons (.str _) .nil)) (.cons (.lst (SqL.of (y4 _ _ hl1)) (.cons (.str _) .nil)) (.cons (.dct (z5 _ _ hd1) rfl .nil) .nil))))))
      have sJ : Same H J5 := s16.trans (((z1.trans z2).trans z3).trans (z4.trans z5))
      obtain ⟨w1, w2, w3, w4⟩ := resD_inr (i := 0) (by decide)
      have sh0 : (resD (.inr 0)).shown = "(None, 0)" := by decide +kernel
      refine ⟨T7, rfl, ⟨_, SqT.of hT7⟩, ?_⟩
      refine for_tup (xs := xs7) (fun g σ H' => ∃ y8, σ = [some (.ref a), some (.int (0 + (i : Nat))), some (.ref u), y3, y4, y5, y6, y7, y8, y9] ∧ Same J5 H') ⟨_, rfl, Same.refl _⟩ (fun g σ H' _ ⟨_, _, h⟩ => SqT.of (h _ _ hT7)) ?_ ?_
      · rintro g x σ J6 hx ⟨y8, rfl, s6⟩
        obtain ⟨dv, hdv, ddx⟩ := dd7.get hx
        have nstr : ∀ y, dv ≠ .str y := fun y e => by
          have := List.mem_of_getElem? hdv
          rw [e] at this
          simp at this
        refine ⟨_, rfl, 5, 2, x, dv, rfl, ddx.same s6, by decide, by decide, .inr ⟨nstr, fun J7 t2 s7 dp2 => ?_⟩⟩
        refine ⟨_, _, rfl, dp2, w1, w2, w3, w4, rfl, _, rfl, ?_⟩
        rw [sh0]
        refine ifNN rfl ?_
        exact ⟨_, rfl, s6.trans s7⟩
      · rintro σ J6 ⟨y8, rfl, s6⟩
        refine ⟨⟨_, rfl⟩, (by show 1 ≤ sizeLine; decide), fun l2 nl2 => ?_⟩
        have z6 := same_new (H := J6) (o := .lst [V.str "set 0 1"]) nl2
        have hl2 := upd_same (H := J6) (a := l2) (o := .lst [V.str "set 0 1"])
        generalize upd J6 l2 (.lst [V.str "set 0 1"]) = J7 at z6 hl2 ⊢
        refine ⟨l2, 201, _, rfl, rfl, hl2, by decide, by decide, by rw [sizeLine_eq]; decide, fun l3 nl3 => ?_⟩
        have er : (List.replicate (201 : Int).toNat [V.str "set 0 1"]).flatten = (List.replicate 201 s01).map V.str := by
          rw [List.map_replicate]
          show (List.replicate 201 [V.str s01]).flatten = _
          rw [List.flatten_replicate_singleton]
        rw [er]
        have z7 := same_new (H := J7) (o := .lst ((List.replicate 201 s01).map V.str)) nl3
        have hl3 := upd_same (H := J7) (a := l3) (o := .lst ((List.replicate 201 s01).map V.str))
        generalize upd J7 l3 (.lst ((List.replicate 201 s01).map V.str)) = J8 at z7 hl3 ⊢
        have ls1 : s01.length = 7 := by decide +kernel
        have d1 : ("\n" : Str).length = 1 := by decide +kernel
        refine ⟨_, l3, List.replicate 201 s01, rfl, rfl, .inl (SqL.of hl3), ?_, ?_⟩
        · rw [List.map_replicate, List.length_replicate, ls1, d1, List.sum_replicate_nat]
          decide
        have eL : Txt.join "\n" (List.replicate 201 s01) = lngS 201 := rfl
        rw [eL]
        have len1 : (lngS 201).length = 1607 := lng_len 200
        have cn1 : cnl (lngS 201) = 200 := lng_cnl 200
        have rp1 := lng_rdP 200
        rw [if_neg (by decide)] at rp1
        have cut1 := lng_cut 199
        have len2 : (lngS 200).length = 1599 := lng_len 199
        have cn2 : cnl (lngS 200) = 199 := lng_cnl 199
        have rp2 := lng_rdP 199
        rw [if_pos (by decide)] at rp2
        refine ⟨_, rfl, 5, 2, .str (lngS 201), .str (lngS 201), rfl, .str _, by decide, by decide, .inl ⟨_, rfl, by omega, by omega, fun J9 t2 s9 dp2 => ?_⟩⟩
        rw [show rdP 5 2 (lngS 201) = .inr 0 from rp1] at dp2
        refine ⟨_, _, rfl, dp2, w1, w2, w3, w4, rfl, _, rfl, ?_⟩
        rw [sh0]
        refine ifNN rfl ?_
        refine ⟨_, rfl, _, rfl, _, rfl, lngS 201, rfl, by rw [sizeLine_eq]; omega, ?_⟩
        rw [show cutS (lngS 201) none (some (-8)) = lngS 200 from cut1]
        refine ⟨5, 2, .str (lngS 200), .str (lngS 200), rfl, .str _, by decide, by decide, .inl ⟨_, rfl, by omega, by omega, fun J10 t3 s10 dp3 => ?_⟩⟩
        rw [show rdP 5 2 (lngS 200) = .inl _ from rp2] at dp3
        obtain ⟨x1, sq3⟩ : ∃ x1, SqT K J10 t3 [x1, .non] := by
          cases dp3 with
          | tup sq r =>
            cases r with
            | cons h r =>
              cases r with
              | cons h2 r =>
                cases r
                cases h2
                exact ⟨_, sq⟩
        refine ⟨t3, _, 1, .non, rfl, rfl, sq3, rfl, rfl, _, rfl, ?_⟩
        refine ifNN rfl ?_
        exact ⟨_, _, _, _, _, _, _, _, _, rfl, sJ.trans (s6.trans ((z6.trans z7).trans (s9.trans s10)))⟩
  · rintro σ H1 ⟨y1, y2, y3, y4, y5, y6, y7, y8, y9, rfl, s1⟩
    exact q H1
end
end K58
set_option Elab.async false
set_option linter.all false
set_option maxRecDepth 100000
set_option pp.maxSteps 500
set_option pp.deepTerms.threshold 8
set_option pp.deepTerms false
namespace K58
open PySem PySem.Spec PyProof.Rows L2 Lj
section
variable {K : PySem.W.Frag} {w : World}
abbrev tup2 (a b : Value) (c : Nat) : Obj := ⟨.type "tuple", none, .seq #[a, b] c, #[]⟩
theorem shp_at {t : Addr} {i : Int} {a b : Tok} {j : Int} {c : Nat} (h : K.lookup t = some (tup2 (.int i a) (.int j b) c)) {k : Nat} (e : i = (k : Int)) : ShpAt K t (k, some j) := fun H => by
  subst e
  exact .inr ⟨_, _, _, h, rfl, rfl, by show 2 ≤ sizeLine; decide, .cons ⟨_, rfl⟩ (.cons ⟨_, rfl⟩ .nil)⟩
theorem shp_atN {t : Addr} {i : Int} {a : Tok} {c : Nat} (h : K.lookup t = some (tup2 (.int i a) .none c)) {k : Nat} (e : i = (k : Int)) : ShpAt K t (k, none) := fun H => by
  subst e
  exact .inr ⟨_, _, _, h, rfl, rfl, by show 2 ≤ sizeLine; decide, .cons ⟨_, rfl⟩ (.cons rfl .nil)⟩
theorem shs_mk {sh s1 s2 s3 s4 s5 s6 s7 : Addr} {n : Nat} {h1 h2 h3 h4 h5 h6 h7 : Int} {t1 t2 t3 t4 t5 t6 t7 a1 a2 a3 a4 a5 a6 a7 b1 b3 b4 : Tok} {c1 c2 c3 c4 c5 c6 c7 : Nat}
    (lk : K.lookup sh = some ⟨.type "dict", none, .dict #[⟨h1, .str "set" t1, .ref s1⟩, ⟨h2, .str "copy" t2, .ref s2⟩, ⟨h3, .str "add" t3, .ref s3⟩, ⟨h4, .str "scale" t4, .ref s4⟩, ⟨h5, .str "swap" t5, .ref s5⟩, ⟨h6, .str "read" t6, .ref s6⟩, ⟨h7, .str "write" t7, .ref s7⟩] n, #[]⟩)
    (kl : PySem.W.KeysLit w.params [⟨h1, .str "set" t1, .ref s1⟩, ⟨h2, .str "copy" t2, .ref s2⟩, ⟨h3, .str "add" t3, .ref s3⟩, ⟨h4, .str "scale" t4, .ref s4⟩, ⟨h5, .str "swap" t5, .ref s5⟩, ⟨h6, .str "read" t6, .ref s6⟩, ⟨h7, .str "write" t7, .ref s7⟩]) (low : (sh == sysModules) = false)
    (l1 : K.lookup s1 = some (tup2 (.int 1 a1) (.int 0 b1) c1)) (l2 : K.lookup s2 = some (tup2 (.int 2 a2) .none c2)) (l3 : K.lookup s3 = some (tup2 (.int 2 a3) (.int 1 b3) c3)) (l4 : K.lookup s4 = some (tup2 (.int 1 a4) (.int 0 b4) c4)) (l5 : K.lookup s5 = some (tup2 (.int 2 a5) .none c5)) (l6 : K.lookup s6 = some (tup2 (.int 1 a6) .none c6)) (l7 : K.lookup s7 = some (tup2 (.int 1 a7) .none c7)) : Shs K w sh := by
  refine ⟨⟨_, _, lk, kl, low⟩, fun z => ?_⟩
  by_cases z1 : z = "set"
  · subst z1
    exact ⟨_, (by unfold PySem.W.nsIn; rw [lk]; rfl), .inr ⟨(1, some 0), s1, rfl, rfl, shp_at l1 rfl, .inl rfl⟩⟩
  by_cases z2 : z = "copy"
  · subst z2
    exact ⟨_, (by unfold PySem.W.nsIn; rw [lk]; rfl), .inr ⟨(2, none), s2, rfl, rfl, shp_atN l2 rfl, .inr rfl⟩⟩
  by_cases z3 : z = "add"
  · subst z3
    exact ⟨_, (by unfold PySem.W.nsIn; rw [lk]; rfl), .inr ⟨(2, some 1), s3, rfl, rfl, shp_at l3 rfl, .inr rfl⟩⟩
  by_cases z4 : z = "scale"
  · subst z4
    exact ⟨_, (by unfold PySem.W.nsIn; rw [lk]; rfl), .inr ⟨(1, some 0), s4, rfl, rfl, shp_at l4 rfl, .inl rfl⟩⟩
  by_cases z5 : z = "swap"
  · subst z5
    exact ⟨_, (by unfold PySem.W.nsIn; rw [lk]; rfl), .inr ⟨(2, none), s5, rfl, rfl, shp_atN l5 rfl, .inr rfl⟩⟩
  by_cases z6 : z = "read"
  · subst z6
    exact ⟨_, (by unfold PySem.W.nsIn; rw [lk]; rfl), .inr ⟨(1, none), s6, rfl, rfl, shp_atN l6 rfl, .inl rfl⟩⟩
  by_cases z7 : z = "write"
  · subst z7
    exact ⟨_, (by unfold PySem.W.nsIn; rw [lk]; rfl), .inr ⟨(1, none), s7, rfl, rfl, shp_atN l7 rfl, .inl rfl⟩⟩
  refine ⟨none, ?_, .inl ⟨?_, rfl⟩⟩
  · have f : ∀ {y : Str} {t : Tok}, z ≠ y → (Value.str y t).isStr z = false := fun {y t} h => by
      show (y == z) = false
      exact beq_eq_false_iff_ne.mpr fun e => h e.symm
    unfold PySem.W.nsIn
    rw [lk]
    show (match ([⟨h1, .str "set" t1, .ref s1⟩, ⟨h2, .str "copy" t2, .ref s2⟩, ⟨h3, .str "add" t3, .ref s3⟩, ⟨h4, .str "scale" t4, .ref s4⟩, ⟨h5, .str "swap" t5, .ref s5⟩, ⟨h6, .str "read" t6, .ref s6⟩, ⟨h7, .str "write" t7, .ref s7⟩] : List DictEntry).find? (·.key.isStr z) with
      | some e => some (some e.val)
      | none => _) = _
    rw [List.find?_cons, f z1, List.find?_cons, f z2, List.find?_cons, f z3, List.find?_cons, f z4, List.find?_cons, f z5, List.find?_cons, f z6, List.find?_cons, f z7]
    rfl
  · unfold shp
    rw [if_neg z1, if_neg z2, if_neg z3, if_neg z4, if_neg z5, if_neg z6, if_neg z7]
end
end K58
set_option Elab.async false
set_option linter.all false
set_option maxRecDepth 100000
set_option pp.maxSteps 500
set_option pp.deepTerms.threshold 8
set_option pp.deepTerms false
namespace K58
open PySem PySem.Spec PyProof.Rows L2 Lj
set_option maxHeartbeats 16000000 in
theorem all_mk {l : PySem.W.OpenLaw} {w : World} {K : PySem.W.Frag} {h : Heap} {mg : Str → Option Value} {fa f0 f1 f2 f3 f4 f5 f6 f7 f8 f9 f10 f11 f12 f13 f14 f15 f16 f17 f18 f19 f20 f21 f22 f23 f24 f25 f26 f27 f28 f29 f30 : Addr} (X : K.In h) (G : h.Ns mainGlobals mg) (hfa : mg "law" = some (.ref fa))
    {od0 an0 od1 an1 od2 an2 od3 an3 od4 an4 od5 an5 od6 an6 od7 an7 od8 an8 od9 an9 od10 an10 od11 an11 od12 an12 od13 an13 od14 an14 od15 an15 od16 an16 od17 an17 od18 an18 od19 an19 od20 an20 od21 an21 od22 an22 od23 an23 od24 an24 od25 an25 od26 an26 od27 an27 od28 an28 od29 an29 od30 an30 : Option Addr} {sl0 sl1 sl2 sl3 sl4 sl5 sl6 sl7 sl8 sl9 sl10 sl11 sl12 sl13 sl14 sl15 sl16 sl17 sl18 sl19 sl20 sl21 sl22 sl23 sl24 sl25 sl26 sl27 sl28 sl29 sl30 : Array (Option Value)} {oc0 kV0 dc0 pm0 cd0 ct0 oc1 kV1 dc1 pm1 cd1 ct1 oc2 kV2 dc2 pm2 cd2 ct2 oc3 kV3 dc3 pm3 cd3 ct3 oc4 kV4 dc4 pm4 cd4 ct4 oc5 kV5 dc5 pm5 cd5 ct5 oc6 kV6 dc6 pm6 cd6 ct6 oc7 kV7 dc7 pm7 cd7 ct7 oc8 kV8 dc8 pm8 cd8 ct8 oc9 kV9 dc9 pm9 cd9 ct9 oc10 kV10 dc10 pm10 cd10 ct10 oc11 kV11 dc11 pm11 cd11 ct11 oc12 kV12 dc12 pm12 cd12 ct12 oc13 kV13 dc13 pm13 cd13 ct13 oc14 kV14 dc14 pm14 cd14 ct14 oc15 kV15 dc15 pm15 cd15 ct15 oc16 kV16 dc16 pm16 cd16 ct16 oc17 kV17 dc17 pm17 cd17 ct17 oc18 kV18 dc18 pm18 cd18 ct18 oc19 kV19 dc19 pm19 cd19 ct19 oc20 kV20 dc20 pm20 cd20 ct20 oc21 kV21 dc21 pm21 cd21 ct21 oc22 kV22 dc22 pm22 cd22 ct22 oc23 kV23 dc23 pm23 cd23 ct23 oc24 kV24 dc24 pm24 cd24 ct24 oc25 kV25 dc25 pm25 cd25 ct25 oc26 kV26 dc26 pm26 cd26 ct26 oc27 kV27 dc27 pm27 cd27 ct27 oc28 kV28 dc28 pm28 cd28 ct28 oc29 kV29 dc29 pm29 cd29 ct29 oc30 kV30 dc30 pm30 cd30 ct30 : Value}
    (a0 : PySem.W.nsIn K mainGlobals "is_between" = some (some (.ref f0))) (l0 : K.lookup f0 = some ⟨oc0, od0, .func (PySem.W.fnOf "is_between" "is_between" (defArgs sIs_between) (defBody sIs_between) (defScope sIs_between) .none kV0 dc0 pm0 an0 cd0 ct0), sl0⟩) (c0 : PySem.W.codeIn K cd0 "is_between" = true) (k0 : PySem.W.keepIn K (.ref f0) = true)
    (a1 : PySem.W.nsIn K mainGlobals "is_program" = some (some (.ref f1))) (l1 : K.lookup f1 = some ⟨oc1, od1, .func (PySem.W.fnOf "is_program" "is_program" (defArgs sIs_program) (defBody sIs_program) (defScope sIs_program) .none kV1 dc1 pm1 an1 cd1 ct1), sl1⟩) (c1 : PySem.W.codeIn K cd1 "is_program" = true) (k1 : PySem.W.keepIn K (.ref f1) = true)
    (a2 : PySem.W.nsIn K mainGlobals "is_body" = some (some (.ref f2))) (l2 : K.lookup f2 = some ⟨oc2, od2, .func (PySem.W.fnOf "is_body" "is_body" (defArgs sIs_body) (defBody sIs_body) (defScope sIs_body) .none kV2 dc2 pm2 an2 cd2 ct2), sl2⟩) (c2 : PySem.W.codeIn K cd2 "is_body" = true) (k2 : PySem.W.keepIn K (.ref f2) = true)
    (a3 : PySem.W.nsIn K mainGlobals "is_instruction" = some (some (.ref f3))) (l3 : K.lookup f3 = some ⟨oc3, od3, .func (PySem.W.fnOf "is_instruction" "is_instruction" (defArgs sIs_instruction) (defBody sIs_instruction) (defScope sIs_instruction) .none kV3 dc3 pm3 an3 cd3 ct3), sl3⟩) (c3 : PySem.W.codeIn K cd3 "is_instruction" = true) (k3 : PySem.W.keepIn K (.ref f3) = true)
    (a4 : PySem.W.nsIn K mainGlobals "is_loop" = some (some (.ref f4))) (l4 : K.lookup f4 = some ⟨oc4, od4, .func (PySem.W.fnOf "is_loop" "is_loop" (defArgs sIs_loop) (defBody sIs_loop) (defScope sIs_loop) .none kV4 dc4 pm4 an4 cd4 ct4), sl4⟩) (c4 : PySem.W.codeIn K cd4 "is_loop" = true) (k4 : PySem.W.keepIn K (.ref f4) = true)
    (a5 : PySem.W.nsIn K mainGlobals "has_shape" = some (some (.ref f5))) (l5 : K.lookup f5 = some ⟨oc5, od5, .func (PySem.W.fnOf "has_shape" "has_shape" (defArgs sHas_shape) (defBody sHas_shape) (defScope sHas_shape) .none kV5 dc5 pm5 an5 cd5 ct5), sl5⟩) (c5 : PySem.W.codeIn K cd5 "has_shape" = true) (k5 : PySem.W.keepIn K (.ref f5) = true)
    (a6 : PySem.W.nsIn K mainGlobals "are_registers" = some (some (.ref f6))) (l6 : K.lookup f6 = some ⟨oc6, od6, .func (PySem.W.fnOf "are_registers" "are_registers" (defArgs sAre_registers) (defBody sAre_registers) (defScope sAre_registers) .none kV6 dc6 pm6 an6 cd6 ct6), sl6⟩) (c6 : PySem.W.codeIn K cd6 "are_registers" = true) (k6 : PySem.W.keepIn K (.ref f6) = true)
    (a7 : PySem.W.nsIn K mainGlobals "size" = some (some (.ref f7))) (l7 : K.lookup f7 = some ⟨oc7, od7, .func (PySem.W.fnOf "size" "size" (defArgs sSize) (defBody sSize) (defScope sSize) .none kV7 dc7 pm7 an7 cd7 ct7), sl7⟩) (c7 : PySem.W.codeIn K cd7 "size" = true) (k7 : PySem.W.keepIn K (.ref f7) = true)
    (a8 : PySem.W.nsIn K mainGlobals "read_count" = some (some (.ref f8))) (l8 : K.lookup f8 = some ⟨oc8, od8, .func (PySem.W.fnOf "read_count" "read_count" (defArgs sRead_count) (defBody sRead_count) (defScope sRead_count) .none kV8 dc8 pm8 an8 cd8 ct8), sl8⟩) (c8 : PySem.W.codeIn K cd8 "read_count" = true) (k8 : PySem.W.keepIn K (.ref f8) = true)
    (a9 : PySem.W.nsIn K mainGlobals "write_count" = some (some (.ref f9))) (l9 : K.lookup f9 = some ⟨oc9, od9, .func (PySem.W.fnOf "write_count" "write_count" (defArgs sWrite_count) (defBody sWrite_count) (defScope sWrite_count) .none kV9 dc9 pm9 an9 cd9 ct9), sl9⟩) (c9 : PySem.W.codeIn K cd9 "write_count" = true) (k9 : PySem.W.keepIn K (.ref f9) = true)
    (a10 : PySem.W.nsIn K mainGlobals "word_count" = some (some (.ref f10))) (l10 : K.lookup f10 = some ⟨oc10, od10, .func (PySem.W.fnOf "word_count" "word_count" (defArgs sWord_count) (defBody sWord_count) (defScope sWord_count) .none kV10 dc10 pm10 an10 cd10 ct10), sl10⟩) (c10 : PySem.W.codeIn K cd10 "word_count" = true) (k10 : PySem.W.keepIn K (.ref f10) = true)
    (a11 : PySem.W.nsIn K mainGlobals "read_program" = some (some (.ref f11))) (l11 : K.lookup f11 = some ⟨oc11, od11, .func (PySem.W.fnOf "read_program" "read_program" (defArgs sRead_program) (defBody sRead_program) (defScope sRead_program) .none kV11 dc11 pm11 an11 cd11 ct11), sl11⟩) (c11 : PySem.W.codeIn K cd11 "read_program" = true) (k11 : PySem.W.keepIn K (.ref f11) = true)
    (a12 : PySem.W.nsIn K mainGlobals "number_of" = some (some (.ref f12))) (l12 : K.lookup f12 = some ⟨oc12, od12, .func (PySem.W.fnOf "number_of" "number_of" (defArgs sNumber_of) (defBody sNumber_of) (defScope sNumber_of) .none kV12 dc12 pm12 an12 cd12 ct12), sl12⟩) (c12 : PySem.W.codeIn K cd12 "number_of" = true) (k12 : PySem.W.keepIn K (.ref f12) = true)
    (a13 : PySem.W.nsIn K mainGlobals "_law_digits" = some (some (.ref f13))) (l13 : K.lookup f13 = some ⟨oc13, od13, .func (PySem.W.fnOf "_law_digits" "_law_digits" (defArgs sDigits) (defBody sDigits) (defScope sDigits) .none kV13 dc13 pm13 an13 cd13 ct13), sl13⟩) (c13 : PySem.W.codeIn K cd13 "_law_digits" = true) (k13 : PySem.W.keepIn K (.ref f13) = true)
    (a14 : PySem.W.nsIn K mainGlobals "_law_draw" = some (some (.ref f14))) (l14 : K.lookup f14 = some ⟨oc14, od14, .func (PySem.W.fnOf "_law_draw" "_law_draw" (defArgs sDraw) (defBody sDraw) (defScope sDraw) .none kV14 dc14 pm14 an14 cd14 ct14), sl14⟩) (c14 : PySem.W.codeIn K cd14 "_law_draw" = true) (k14 : PySem.W.keepIn K (.ref f14) = true)
    (a15 : PySem.W.nsIn K mainGlobals "_law_pick" = some (some (.ref f15))) (l15 : K.lookup f15 = some ⟨oc15, od15, .func (PySem.W.fnOf "_law_pick" "_law_pick" (defArgs sPick) (defBody sPick) (defScope sPick) .none kV15 dc15 pm15 an15 cd15 ct15), sl15⟩) (c15 : PySem.W.codeIn K cd15 "_law_pick" = true) (k15 : PySem.W.keepIn K (.ref f15) = true)
    (a16 : PySem.W.nsIn K mainGlobals "_law_other" = some (some (.ref f16))) (l16 : K.lookup f16 = some ⟨oc16, od16, .func (PySem.W.fnOf "_law_other" "_law_other" (defArgs sOther) (defBody sOther) (defScope sOther) .none kV16 dc16 pm16 an16 cd16 ct16), sl16⟩) (c16 : PySem.W.codeIn K cd16 "_law_other" = true) (k16 : PySem.W.keepIn K (.ref f16) = true)
    (a17 : PySem.W.nsIn K mainGlobals "_law_instruction" = some (some (.ref f17))) (l17 : K.lookup f17 = some ⟨oc17, od17, .func (PySem.W.fnOf "_law_instruction" "_law_instruction" (defArgs sInstruction) (defBody sInstruction) (defScope sInstruction) .none kV17 dc17 pm17 an17 cd17 ct17), sl17⟩) (c17 : PySem.W.codeIn K cd17 "_law_instruction" = true) (k17 : PySem.W.keepIn K (.ref f17) = true)
    (a18 : PySem.W.nsIn K mainGlobals "_law_flat" = some (some (.ref f18))) (l18 : K.lookup f18 = some ⟨oc18, od18, .func (PySem.W.fnOf "_law_flat" "_law_flat" (defArgs sFlat) (defBody sFlat) (defScope sFlat) .none kV18 dc18 pm18 an18 cd18 ct18), sl18⟩) (c18 : PySem.W.codeIn K cd18 "_law_flat" = true) (k18 : PySem.W.keepIn K (.ref f18) = true)
    (a19 : PySem.W.nsIn K mainGlobals "_law_lines" = some (some (.ref f19))) (l19 : K.lookup f19 = some ⟨oc19, od19, .func (PySem.W.fnOf "_law_lines" "_law_lines" (defArgs sLines) (defBody sLines) (defScope sLines) .none kV19 dc19 pm19 an19 cd19 ct19), sl19⟩) (c19 : PySem.W.codeIn K cd19 "_law_lines" = true) (k19 : PySem.W.keepIn K (.ref f19) = true)
    (a20 : PySem.W.nsIn K mainGlobals "_law_nested_program" = some (some (.ref f20))) (l20 : K.lookup f20 = some ⟨oc20, od20, .func (PySem.W.fnOf "_law_nested_program" "_law_nested_program" (defArgs sNested_program) (defBody sNested_program) (defScope sNested_program) .none kV20 dc20 pm20 an20 cd20 ct20), sl20⟩) (c20 : PySem.W.codeIn K cd20 "_law_nested_program" = true) (k20 : PySem.W.keepIn K (.ref f20) = true)
    (a21 : PySem.W.nsIn K mainGlobals "_law_once" = some (some (.ref f21))) (l21 : K.lookup f21 = some ⟨oc21, od21, .func (PySem.W.fnOf "_law_once" "_law_once" (defArgs sOnce) (defBody sOnce) (defScope sOnce) .none kV21 dc21 pm21 an21 cd21 ct21), sl21⟩) (c21 : PySem.W.codeIn K cd21 "_law_once" = true) (k21 : PySem.W.keepIn K (.ref f21) = true)
    (a22 : PySem.W.nsIn K mainGlobals "_law_number" = some (some (.ref f22))) (l22 : K.lookup f22 = some ⟨oc22, od22, .func (PySem.W.fnOf "_law_number" "_law_number" (defArgs sNumber) (defBody sNumber) (defScope sNumber) .none kV22 dc22 pm22 an22 cd22 ct22), sl22⟩) (c22 : PySem.W.codeIn K cd22 "_law_number" = true) (k22 : PySem.W.keepIn K (.ref f22) = true)
    (a23 : PySem.W.nsIn K mainGlobals "_law_line_op" = some (some (.ref f23))) (l23 : K.lookup f23 = some ⟨oc23, od23, .func (PySem.W.fnOf "_law_line_op" "_law_line_op" (defArgs sLine_op) (defBody sLine_op) (defScope sLine_op) .none kV23 dc23 pm23 an23 cd23 ct23), sl23⟩) (c23 : PySem.W.codeIn K cd23 "_law_line_op" = true) (k23 : PySem.W.keepIn K (.ref f23) = true)
    (a24 : PySem.W.nsIn K mainGlobals "_law_read" = some (some (.ref f24))) (l24 : K.lookup f24 = some ⟨oc24, od24, .func (PySem.W.fnOf "_law_read" "_law_read" (defArgs sRead) (defBody sRead) (defScope sRead) .none kV24 dc24 pm24 an24 cd24 ct24), sl24⟩) (c24 : PySem.W.codeIn K cd24 "_law_read" = true) (k24 : PySem.W.keepIn K (.ref f24) = true)
    (a25 : PySem.W.nsIn K mainGlobals "_law_total" = some (some (.ref f25))) (l25 : K.lookup f25 = some ⟨oc25, od25, .func (PySem.W.fnOf "_law_total" "_law_total" (defArgs sTotal) (defBody sTotal) (defScope sTotal) .none kV25 dc25 pm25 an25 cd25 ct25), sl25⟩) (c25 : PySem.W.codeIn K cd25 "_law_total" = true) (k25 : PySem.W.keepIn K (.ref f25) = true)
    (a26 : PySem.W.nsIn K mainGlobals "_law_instructions" = some (some (.ref f26))) (l26 : K.lookup f26 = some ⟨oc26, od26, .func (PySem.W.fnOf "_law_instructions" "_law_instructions" (defArgs sInstructions) (defBody sInstructions) (defScope sInstructions) .none kV26 dc26 pm26 an26 cd26 ct26), sl26⟩) (c26 : PySem.W.codeIn K cd26 "_law_instructions" = true) (k26 : PySem.W.keepIn K (.ref f26) = true)
    (a27 : PySem.W.nsIn K mainGlobals "_law_within" = some (some (.ref f27))) (l27 : K.lookup f27 = some ⟨oc27, od27, .func (PySem.W.fnOf "_law_within" "_law_within" (defArgs sWithin) (defBody sWithin) (defScope sWithin) .none kV27 dc27 pm27 an27 cd27 ct27), sl27⟩) (c27 : PySem.W.codeIn K cd27 "_law_within" = true) (k27 : PySem.W.keepIn K (.ref f27) = true)
    (a28 : PySem.W.nsIn K mainGlobals "_law_changed" = some (some (.ref f28))) (l28 : K.lookup f28 = some ⟨oc28, od28, .func (PySem.W.fnOf "_law_changed" "_law_changed" (defArgs sChanged) (defBody sChanged) (defScope sChanged) .none kV28 dc28 pm28 an28 cd28 ct28), sl28⟩) (c28 : PySem.W.codeIn K cd28 "_law_changed" = true) (k28 : PySem.W.keepIn K (.ref f28) = true)
    (a29 : PySem.W.nsIn K mainGlobals "_law_told" = some (some (.ref f29))) (l29 : K.lookup f29 = some ⟨oc29, od29, .func (PySem.W.fnOf "_law_told" "_law_told" (defArgs sTold) (defBody sTold) (defScope sTold) .none kV29 dc29 pm29 an29 cd29 ct29), sl29⟩) (c29 : PySem.W.codeIn K cd29 "_law_told" = true) (k29 : PySem.W.keepIn K (.ref f29) = true)
    (a30 : PySem.W.nsIn K mainGlobals "law" = some (some (.ref f30))) (l30 : K.lookup f30 = some ⟨oc30, od30, .func (PySem.W.fnOf "law" "law" (defArgs sLaw) (defBody sLaw) (defScope sLaw) .none kV30 dc30 pm30 an30 cd30 ct30), sl30⟩) (c30 : PySem.W.codeIn K cd30 "law" = true) (k30 : PySem.W.keepIn K (.ref f30) = true)
    (z0 : PySem.W.nsIn K mainGlobals "len" = some none)
    (z1 : PySem.W.nsIn K mainGlobals "abs" = some none)
    (z2 : PySem.W.nsIn K mainGlobals "int" = some none)
    (z3 : PySem.W.nsIn K mainGlobals "range" = some none)
    (z4 : PySem.W.nsIn K mainGlobals "max" = some none)
    (z5 : PySem.W.nsIn K mainGlobals "min" = some none)
    (z6 : PySem.W.nsIn K mainGlobals "all" = some none)
    (z7 : PySem.W.nsIn K mainGlobals "sum" = some none)
    (z8 : PySem.W.nsIn K mainGlobals "list" = some none)
    (z9 : PySem.W.nsIn K mainGlobals "tuple" = some none)
    (z10 : PySem.W.nsIn K mainGlobals "isinstance" = some none)
    (z11 : PySem.W.nsIn K mainGlobals "bool" = some none)
    (z12 : PySem.W.nsIn K mainGlobals "repr" = some none)
    (z13 : PySem.W.nsIn K mainGlobals "enumerate" = some none)
    (z14 : PySem.W.nsIn K mainGlobals "zip" = some none)
    (z15 : PySem.W.nsIn K mainGlobals "divmod" = some none)
    (y0 : PySem.W.nsIn K mainGlobals "str" = some none)
    {tk0 : Tok} (v0 : PySem.W.nsIn K mainGlobals "MAX_DEPTH" = some (some (.int 4 tk0)))
    {tk1 : Tok} (v1 : PySem.W.nsIn K mainGlobals "MAX_SIZE" = some (some (.int 200 tk1)))
    {tk2 : Tok} (v2 : PySem.W.nsIn K mainGlobals "MAX_READS" = some (some (.int 2000 tk2)))
    {tk3 : Tok} (v3 : PySem.W.nsIn K mainGlobals "MAX_WRITES" = some (some (.int 2000 tk3)))
    {tk4 : Tok} (v4 : PySem.W.nsIn K mainGlobals "MAX_ROUNDS" = some (some (.int 1000000000000000000 tk4)))
    {tk5 : Tok} (v5 : PySem.W.nsIn K mainGlobals "DIGITS" = some (some (.str "0123456789" tk5)))
    {tk6 : Tok} (v6 : PySem.W.nsIn K mainGlobals "MAX_DIGITS" = some (some (.int 80 tk6)))
    {tk7 : Tok} (v7 : PySem.W.nsIn K mainGlobals "MARGIN" = some (some (.str "  " tk7)))
    {CD fDReader_init fDReader_takes fDReader_close_loop fDReader_takes_loop fDReader_takes_step : Addr} {odDReader_init anDReader_init odDReader_takes anDReader_takes odDReader_close_loop anDReader_close_loop odDReader_takes_loop anDReader_takes_loop odDReader_takes_step anDReader_takes_step : Option Addr} {slDReader_init slDReader_takes slDReader_close_loop slDReader_takes_loop slDReader_takes_step : Array (Option Value)} {ocDReader_init kVDReader_init dcDReader_init pmDReader_init cdDReader_init ctDReader_init ocDReader_takes kVDReader_takes dcDReader_takes pmDReader_takes cdDReader_takes ctDReader_takes ocDReader_close_loop kVDReader_close_loop dcDReader_close_loop pmDReader_close_loop cdDReader_close_loop ctDReader_close_loop ocDReader_takes_loop kVDReader_takes_loop dcDReader_takes_loop pmDReader_takes_loop cdDReader_takes_loop ctDReader_takes_loop ocDReader_takes_step kVDReader_takes_step dcDReader_takes_step pmDReader_takes_step cdDReader_takes_step ctDReader_takes_step : Value}
    (aCD : PySem.W.nsIn K mainGlobals "Reader" = some (some (.ref CD)))
    (aDReader_init : PySem.W.findIn K (.ref CD) "__init__" = some (some (.ref fDReader_init))) (iDReader_init : PySem.W.isFn K (.ref fDReader_init) = true) (lDReader_init : K.lookup fDReader_init = some ⟨ocDReader_init, odDReader_init, .func (PySem.W.fnOf "__init__" "Reader.__init__" (defArgs sReader_init) (defBody sReader_init) (defScope sReader_init) .none kVDReader_init dcDReader_init pmDReader_init anDReader_init cdDReader_init ctDReader_init), slDReader_init⟩) (cDReader_init : PySem.W.codeIn K cdDReader_init "Reader.__init__" = true) (kDReader_init : PySem.W.keepIn K (.ref fDReader_init) = true)
    (aDReader_takes : PySem.W.findIn K (.ref CD) "takes" = some (some (.ref fDReader_takes))) (iDReader_takes : PySem.W.isFn K (.ref fDReader_takes) = true) (lDReader_takes : K.lookup fDReader_takes = some ⟨ocDReader_takes, odDReader_takes, .func (PySem.W.fnOf "takes" "Reader.takes" (defArgs sReader_takes) (defBody sReader_takes) (defScope sReader_takes) .none kVDReader_takes dcDReader_takes pmDReader_takes anDReader_takes cdDReader_takes ctDReader_takes), slDReader_takes⟩) (cDReader_takes : PySem.W.codeIn K cdDReader_takes "Reader.takes" = true) (kDReader_takes : PySem.W.keepIn K (.ref fDReader_takes) = true)
    (aDReader_close_loop : PySem.W.findIn K (.ref CD) "close_loop" = some (some (.ref fDReader_close_loop))) (iDReader_close_loop : PySem.W.isFn K (.ref fDReader_close_loop) = true) (lDReader_close_loop : K.lookup fDReader_close_loop = some ⟨ocDReader_close_loop, odDReader_close_loop, .func (PySem.W.fnOf "close_loop" "Reader.close_loop" (defArgs sReader_close_loop) (defBody sReader_close_loop) (defScope sReader_close_loop) .none kVDReader_close_loop dcDReader_close_loop pmDReader_close_loop anDReader_close_loop cdDReader_close_loop ctDReader_close_loop), slDReader_close_loop⟩) (cDReader_close_loop : PySem.W.codeIn K cdDReader_close_loop "Reader.close_loop" = true) (kDReader_close_loop : PySem.W.keepIn K (.ref fDReader_close_loop) = true)
    (aDReader_takes_loop : PySem.W.findIn K (.ref CD) "takes_loop" = some (some (.ref fDReader_takes_loop))) (iDReader_takes_loop : PySem.W.isFn K (.ref fDReader_takes_loop) = true) (lDReader_takes_loop : K.lookup fDReader_takes_loop = some ⟨ocDReader_takes_loop, odDReader_takes_loop, .func (PySem.W.fnOf "takes_loop" "Reader.takes_loop" (defArgs sReader_takes_loop) (defBody sReader_takes_loop) (defScope sReader_takes_loop) .none kVDReader_takes_loop dcDReader_takes_loop pmDReader_takes_loop anDReader_takes_loop cdDReader_takes_loop ctDReader_takes_loop), slDReader_takes_loop⟩) (cDReader_takes_loop : PySem.W.codeIn K cdDReader_takes_loop "Reader.takes_loop" = true) (kDReader_takes_loop : PySem.W.keepIn K (.ref fDReader_takes_loop) = true)
    (aDReader_takes_step : PySem.W.findIn K (.ref CD) "takes_step" = some (some (.ref fDReader_takes_step))) (iDReader_takes_step : PySem.W.isFn K (.ref fDReader_takes_step) = true) (lDReader_takes_step : K.lookup fDReader_takes_step = some ⟨ocDReader_takes_step, odDReader_takes_step, .func (PySem.W.fnOf "takes_step" "Reader.takes_step" (defArgs sReader_takes_step) (defBody sReader_takes_step) (defScope sReader_takes_step) .none kVDReader_takes_step dcDReader_takes_step pmDReader_takes_step anDReader_takes_step cdDReader_takes_step ctDReader_takes_step), slDReader_takes_step⟩) (cDReader_takes_step : PySem.W.codeIn K cdDReader_takes_step "Reader.takes_step" = true) (kDReader_takes_step : PySem.W.keepIn K (.ref fDReader_takes_step) = true)
    (pgD : PySem.W.plainGet K CD Str.empty = true) (hdD : PySem.W.hasDictIn K CD = true) (poD : PySem.W.plainOver K CD = true) (saD : PySem.W.findIn K (.ref CD) "__setattr__" = some (some (.builtin "object.__setattr__"))) (mkD : PySem.W.makesIn K CD = true) (kcD : PySem.W.keepIn K (.ref CD) = true)
    (nD0 : PySem.W.findIn K (.ref CD) "p" = some none)
    (nD1 : PySem.W.findIn K (.ref CD) "n" = some none)
    (nD2 : PySem.W.findIn K (.ref CD) "bodies" = some none)
    (nD3 : PySem.W.findIn K (.ref CD) "rounds" = some none)
    {sh sr0 sr1 sr2 sr3 sr4 sr5 sr6 : Addr} {sn sc0 sc1 sc2 sc3 sc4 sc5 sc6 : Nat} {sh0 sh1 sh2 sh3 sh4 sh5 sh6 : Int} {st0 sa0 st1 sa1 st2 sa2 st3 sa3 st4 sa4 st5 sa5 st6 sa6 sb0 sb2 sb3 : Tok}
    (w0 : PySem.W.nsIn K mainGlobals "SHAPES" = some (some (.ref sh))) (w1 : K.lookup sh = some ⟨.type "dict", none, .dict #[⟨sh0, .str "set" st0, .ref sr0⟩, ⟨sh1, .str "copy" st1, .ref sr1⟩, ⟨sh2, .str "add" st2, .ref sr2⟩, ⟨sh3, .str "scale" st3, .ref sr3⟩, ⟨sh4, .str "swap" st4, .ref sr4⟩, ⟨sh5, .str "read" st5, .ref sr5⟩, ⟨sh6, .str "write" st6, .ref sr6⟩] sn, #[]⟩) (w2 : PySem.W.KeysLit w.params [⟨sh0, .str "set" st0, .ref sr0⟩, ⟨sh1, .str "copy" st1, .ref sr1⟩, ⟨sh2, .str "add" st2, .ref sr2⟩, ⟨sh3, .str "scale" st3, .ref sr3⟩, ⟨sh4, .str "swap" st4, .ref sr4⟩, ⟨sh5, .str "read" st5, .ref sr5⟩, ⟨sh6, .str "write" st6, .ref sr6⟩]) (w3 : (sh == sysModules) = false) (w4 : K.lookup sr0 = some (tup2 (.int 1 sa0) (.int 0 sb0) sc0)) (w5 : K.lookup sr1 = some (tup2 (.int 2 sa1) .none sc1)) (w6 : K.lookup sr2 = some (tup2 (.int 2 sa2) (.int 1 sb2) sc2)) (w7 : K.lookup sr3 = some (tup2 (.int 1 sa3) (.int 0 sb3) sc3)) (w8 : K.lookup sr4 = some (tup2 (.int 2 sa4) .none sc4)) (w9 : K.lookup sr5 = some (tup2 (.int 1 sa5) .none sc5)) (w10 : K.lookup sr6 = some (tup2 (.int 1 sa6) .none sc6))
    {CJ CB fB NB cdaB ccB : Addr} {ddB odB anB cddB cldB : Option Addr} {slB ccsB cslB : Array (Option Value)} {ocB dcB pmB ctB cclB clB : Value} {nmB qB fileB : Str} {tfB : Tok} {bsB subB : List Value}
    (aEJ : PySem.W.nsIn K mainGlobals "JournalError" = some (some (.ref CJ))) (eEJ : PySem.W.subIn K (.ref CJ) (.type "BaseException") = some true) (hEJ : PySem.W.hasDictIn K CJ = true) (yEJ : PySem.W.typeIn K (.ref CJ) = some (.type "type"))
    (zsu : PySem.W.nsIn K mainGlobals "super" = some none) (zve : PySem.W.nsIn K mainGlobals "ValueError" = some none) (zop : PySem.W.nsIn K PySem.cStatics "thirdparty.any" = some none) (ztp : (l.prog.main.scope.names.lookup ("super" : Str)).isSome = false)
    {snB : List Str} {abB : Bool} {colB : Option Bool} {m0B m1B m2B m3B m5B : Option Value} {vsB : Array Value}
    (aEB : PySem.W.nsIn K mainGlobals "BadText" = some (some (.ref CB))) (xEB : K.lookup CB = some (excClassObj nmB qB CB NB bsB [.ref CJ, .type "ValueError", .type "Exception", .type "BaseException", .type "object"] true snB subB abB colB ddB m0B m1B m2B m3B m5B "ValueError.__new__")) (saEB : PySem.W.findIn K (.ref CB) "__setattr__" = some (some (.builtin "object.__setattr__"))) (gEB1 : PySem.W.findIn K (.ref CB) "__getattribute__" = some (some (.builtin "BaseException.__getattribute__"))) (gEB2 : PySem.W.findIn K (.ref CB) "__getattr__" = some none) (nEB : PySem.W.findIn K (.ref CB) "line" = some none) (iEB : PySem.W.findIn K (.ref CB) "__init__" = some (some (.ref fB))) (tEB : PySem.W.typeIn K (.ref fB) = some (.type "function")) (kEB : PySem.W.keepIn K (.ref CB) = true) (eEB : PySem.W.subIn K (.ref CB) (.type "BaseException") = some true) (vEB : PySem.W.subIn K (.ref CB) (.type "ValueError") = some true) (yEB : PySem.W.typeIn K (.ref CB) = some (.type "type")) (hEB : PySem.W.hasDictIn K CB = true) (rEB : PySem.W.mroIn K CB (.ref CB) = some true) (uEB : PySem.W.ks_superIn K CB CB "__init__" = some (some (.builtin "ValueError.__init__"))) (lEB : K.lookup fB = some ⟨ocB, odB, .func (PySem.W.ksFn "__init__" "BadText.__init__" (defArgs sEB) (defBody sEB) (defScope sEB) .none .none dcB pmB anB (.ref cdaB) ctB ccB), slB⟩) (cEB : PySem.W.codeIn K (.ref cdaB) "BadText.__init__" = true) (dEB : K.lookup cdaB = some ⟨cclB, cddB, .fields vsB, ccsB⟩) (wEB : vsB[2]? = some (.str fileB tfB)) (oEB : ((l.prog.main.file : Str) == fileB) = true) (qEB : K.lookup ccB = some ⟨clB, cldB, .cell (some (.ref CB)), cslB⟩) (jEB : PySem.W.subIn K (.ref CB) (.ref CJ) = some true) (bEB1 : PySem.W.findIn K (.ref CB) "__class__" = some (some (.builtin "object.__class__"))) (bEB2 : PySem.W.specialIn K (.builtin "object.__class__") "__get__" = some (some (.builtin "getset_descriptor.__get__"))) (bEB3 : PySem.W.takesIn K (.builtin "object.__class__") = some true) (bEB4 : PySem.W.mroIn K CB (.type "object") = some true)
    (jBB : PySem.W.subIn K (.ref CB) (.ref CB) = some true)
    (kkJ : PySem.W.kitOne K (.ref CB) (.ref CJ) = some true)
    : ∃ fd : FuncData, (∀ (s : Shared) (v : Value), BindsTo s fd ⟨[v], []⟩ [("_law_script", v)]) ∧ ∀ base : Heap, K.In base → base.Ns mainGlobals mg → FnG l.prog w K mg base 21 fa fd ["_law_script"] (spLaw K) := by
  have FIs_between := fun_mk (st := sIs_between) l0 c0 k0
  have AIs_between : At K mg "is_between" sIs_between ["value", "low", "high"] := ⟨_, _, FIs_between, FIs_between.binds (ps := ["value", "low", "high"]) fun _ _ _ _ _ _ us hl => match us, hl with | [_, _, _], _ => rfl, PySem.W.mg_of X G a0⟩
  have FIs_program := fun_mk (st := sIs_program) l1 c1 k1
  have AIs_program : At K mg "is_program" sIs_program ["p", "n", "value"] := ⟨_, _, FIs_program, FIs_program.binds (ps := ["p", "n", "value"]) fun _ _ _ _ _ _ us hl => match us, hl with | [_, _, _], _ => rfl, PySem.W.mg_of X G a1⟩
  have FIs_body := fun_mk (st := sIs_body) l2 c2 k2
  have AIs_body : At K mg "is_body" sIs_body ["p", "n", "value", "levels"] := ⟨_, _, FIs_body, FIs_body.binds (ps := ["p", "n", "value", "levels"]) fun _ _ _ _ _ _ us hl => match us, hl with | [_, _, _, _], _ => rfl, PySem.W.mg_of X G a2⟩
  have FIs_instruction := fun_mk (st := sIs_instruction) l3 c3 k3
  have AIs_instruction : At K mg "is_instruction" sIs_instruction ["p", "n", "value", "levels"] := ⟨_, _, FIs_instruction, FIs_instruction.binds (ps := ["p", "n", "value", "levels"]) fun _ _ _ _ _ _ us hl => match us, hl with | [_, _, _, _], _ => rfl, PySem.W.mg_of X G a3⟩
  have FIs_loop := fun_mk (st := sIs_loop) l4 c4 k4
  have AIs_loop : At K mg "is_loop" sIs_loop ["p", "n", "value", "levels"] := ⟨_, _, FIs_loop, FIs_loop.binds (ps := ["p", "n", "value", "levels"]) fun _ _ _ _ _ _ us hl => match us, hl with | [_, _, _, _], _ => rfl, PySem.W.mg_of X G a4⟩
  have FHas_shape := fun_mk (st := sHas_shape) l5 c5 k5
  have AHas_shape : At K mg "has_shape" sHas_shape ["p", "n", "shape", "parts"] := ⟨_, _, FHas_shape, FHas_shape.binds (ps := ["p", "n", "shape", "parts"]) fun _ _ _ _ _ _ us hl => match us, hl with | [_, _, _, _], _ => rfl, PySem.W.mg_of X G a5⟩
  have FAre_registers := fun_mk (st := sAre_registers) l6 c6 k6
  have AAre_registers : At K mg "are_registers" sAre_registers ["n", "parts"] := ⟨_, _, FAre_registers, FAre_registers.binds (ps := ["n", "parts"]) fun _ _ _ _ _ _ us hl => match us, hl with | [_, _], _ => rfl, PySem.W.mg_of X G a6⟩
  have FSize := fun_mk (st := sSize) l7 c7 k7
  have ASize : At K mg "size" sSize ["program"] := ⟨_, _, FSize, FSize.binds (ps := ["program"]) fun _ _ _ _ _ _ us hl => match us, hl with | [_], _ => rfl, PySem.W.mg_of X G a7⟩
  have FRead_count := fun_mk (st := sRead_count) l8 c8 k8
  have ARead_count : At K mg "read_count" sRead_count ["program"] := ⟨_, _, FRead_count, FRead_count.binds (ps := ["program"]) fun _ _ _ _ _ _ us hl => match us, hl with | [_], _ => rfl, PySem.W.mg_of X G a8⟩
  have FWrite_count := fun_mk (st := sWrite_count) l9 c9 k9
  have AWrite_count : At K mg "write_count" sWrite_count ["program"] := ⟨_, _, FWrite_count, FWrite_count.binds (ps := ["program"]) fun _ _ _ _ _ _ us hl => match us, hl with | [_], _ => rfl, PySem.W.mg_of X G a9⟩
  have FWord_count := fun_mk (st := sWord_count) l10 c10 k10
  have AWord_count : At K mg "word_count" sWord_count ["program", "word"] := ⟨_, _, FWord_count, FWord_count.binds (ps := ["program", "word"]) fun _ _ _ _ _ _ us hl => match us, hl with | [_, _], _ => rfl, PySem.W.mg_of X G a10⟩
  have FRead_program := fun_mk (st := sRead_program) l11 c11 k11
  have ARead_program : At K mg "read_program" sRead_program ["p", "n", "text"] := ⟨_, _, FRead_program, FRead_program.binds (ps := ["p", "n", "text"]) fun _ _ _ _ _ _ us hl => match us, hl with | [_, _, _], _ => rfl, PySem.W.mg_of X G a11⟩
  have FNumber_of := fun_mk (st := sNumber_of) l12 c12 k12
  have ANumber_of : At K mg "number_of" sNumber_of ["word"] := ⟨_, _, FNumber_of, FNumber_of.binds (ps := ["word"]) fun _ _ _ _ _ _ us hl => match us, hl with | [_], _ => rfl, PySem.W.mg_of X G a12⟩
  have FDigits := fun_mk (st := sDigits) l13 c13 k13
  have ADigits : At K mg "_law_digits" sDigits ["_law_script", "_law_k"] := ⟨_, _, FDigits, FDigits.binds (ps := ["_law_script", "_law_k"]) fun _ _ _ _ _ _ us hl => match us, hl with | [_, _], _ => rfl, PySem.W.mg_of X G a13⟩
  have FDraw := fun_mk (st := sDraw) l14 c14 k14
  have ADraw : At K mg "_law_draw" sDraw ["_law_pot", "_law_upto"] := ⟨_, _, FDraw, FDraw.binds (ps := ["_law_pot", "_law_upto"]) fun _ _ _ _ _ _ us hl => match us, hl with | [_, _], _ => rfl, PySem.W.mg_of X G a14⟩
  have FPick := fun_mk (st := sPick) l15 c15 k15
  have APick : At K mg "_law_pick" sPick ["_law_pot", "_law_items"] := ⟨_, _, FPick, FPick.binds (ps := ["_law_pot", "_law_items"]) fun _ _ _ _ _ _ us hl => match us, hl with | [_, _], _ => rfl, PySem.W.mg_of X G a15⟩
  have FOther := fun_mk (st := sOther) l16 c16 k16
  have AOther : At K mg "_law_other" sOther ["_law_pot", "_law_n", "_law_x"] := ⟨_, _, FOther, FOther.binds (ps := ["_law_pot", "_law_n", "_law_x"]) fun _ _ _ _ _ _ us hl => match us, hl with | [_, _, _], _ => rfl, PySem.W.mg_of X G a16⟩
  have FInstruction := fun_mk (st := sInstruction) l17 c17 k17
  have AInstruction : At K mg "_law_instruction" sInstruction ["_law_pot", "_law_p", "_law_n"] := ⟨_, _, FInstruction, FInstruction.binds (ps := ["_law_pot", "_law_p", "_law_n"]) fun _ _ _ _ _ _ us hl => match us, hl with | [_, _, _], _ => rfl, PySem.W.mg_of X G a17⟩
  have FFlat := fun_mk (st := sFlat) l18 c18 k18
  have AFlat : At K mg "_law_flat" sFlat ["_law_program"] := ⟨_, _, FFlat, FFlat.binds (ps := ["_law_program"]) fun _ _ _ _ _ _ us hl => match us, hl with | [_], _ => rfl, PySem.W.mg_of X G a18⟩
  have FLines := fun_mk (st := sLines) l19 c19 k19
  have ALines : At K mg "_law_lines" sLines ["_law_program", "_law_level"] := ⟨_, _, FLines, FLines.binds (ps := ["_law_program", "_law_level"]) fun _ _ _ _ _ _ us hl => match us, hl with | [_, _], _ => rfl, PySem.W.mg_of X G a19⟩
  have FNested_program := fun_mk (st := sNested_program) l20 c20 k20
  have ANested_program : At K mg "_law_nested_program" sNested_program ["_law_pot", "_law_p", "_law_n", "_law_length", "_law_level"] := ⟨_, _, FNested_program, FNested_program.binds (ps := ["_law_pot", "_law_p", "_law_n", "_law_length", "_law_level"]) fun _ _ _ _ _ _ us hl => match us, hl with | [_, _, _, _, _], _ => rfl, PySem.W.mg_of X G a20⟩
  have FOnce := fun_mk (st := sOnce) l21 c21 k21
  have AOnce : At K mg "_law_once" sOnce ["_law_program"] := ⟨_, _, FOnce, FOnce.binds (ps := ["_law_program"]) fun _ _ _ _ _ _ us hl => match us, hl with | [_], _ => rfl, PySem.W.mg_of X G a21⟩
  have FNumber := fun_mk (st := sNumber) l22 c22 k22
  have ANumber : At K mg "_law_number" sNumber ["_law_word"] := ⟨_, _, FNumber, FNumber.binds (ps := ["_law_word"]) fun _ _ _ _ _ _ us hl => match us, hl with | [_], _ => rfl, PySem.W.mg_of X G a22⟩
  have FLine_op := fun_mk (st := sLine_op) l23 c23 k23
  have ALine_op : At K mg "_law_line_op" sLine_op ["_law_p", "_law_n", "_law_line"] := ⟨_, _, FLine_op, FLine_op.binds (ps := ["_law_p", "_law_n", "_law_line"]) fun _ _ _ _ _ _ us hl => match us, hl with | [_, _, _], _ => rfl, PySem.W.mg_of X G a23⟩
  have FRead := fun_mk (st := sRead) l24 c24 k24
  have ARead : At K mg "_law_read" sRead ["_law_p", "_law_n", "_law_text"] := ⟨_, _, FRead, FRead.binds (ps := ["_law_p", "_law_n", "_law_text"]) fun _ _ _ _ _ _ us hl => match us, hl with | [_, _, _], _ => rfl, PySem.W.mg_of X G a24⟩
  have FTotal := fun_mk (st := sTotal) l25 c25 k25
  have ATotal : At K mg "_law_total" sTotal ["_law_program", "_law_word"] := ⟨_, _, FTotal, FTotal.binds (ps := ["_law_program", "_law_word"]) fun _ _ _ _ _ _ us hl => match us, hl with | [_, _], _ => rfl, PySem.W.mg_of X G a25⟩
  have FInstructions := fun_mk (st := sInstructions) l26 c26 k26
  have AInstructions : At K mg "_law_instructions" sInstructions ["_law_program"] := ⟨_, _, FInstructions, FInstructions.binds (ps := ["_law_program"]) fun _ _ _ _ _ _ us hl => match us, hl with | [_], _ => rfl, PySem.W.mg_of X G a26⟩
  have FWithin := fun_mk (st := sWithin) l27 c27 k27
  have AWithin : At K mg "_law_within" sWithin ["_law_program"] := ⟨_, _, FWithin, FWithin.binds (ps := ["_law_program"]) fun _ _ _ _ _ _ us hl => match us, hl with | [_], _ => rfl, PySem.W.mg_of X G a27⟩
  have FChanged := fun_mk (st := sChanged) l28 c28 k28
  have AChanged : At K mg "_law_changed" sChanged ["_law_pot", "_law_text"] := ⟨_, _, FChanged, FChanged.binds (ps := ["_law_pot", "_law_text"]) fun _ _ _ _ _ _ us hl => match us, hl with | [_, _], _ => rfl, PySem.W.mg_of X G a28⟩
  have FTold := fun_mk (st := sTold) l29 c29 k29
  have ATold : At K mg "_law_told" sTold ["_law_p", "_law_n", "_law_text"] := ⟨_, _, FTold, FTold.binds (ps := ["_law_p", "_law_n", "_law_text"]) fun _ _ _ _ _ _ us hl => match us, hl with | [_, _, _], _ => rfl, PySem.W.mg_of X G a29⟩
  have FLaw := fun_mk (st := sLaw) l30 c30 k30
  have ALaw : At K mg "law" sLaw ["_law_script"] := ⟨_, _, FLaw, FLaw.binds (ps := ["_law_script"]) fun _ _ _ _ _ _ us hl => match us, hl with | [_], _ => rfl, PySem.W.mg_of X G a30⟩
  have FDReader_init := fun_mk (st := sReader_init) lDReader_init cDReader_init kDReader_init
  have bDReader_init := FDReader_init.binds (ps := ["self", "p", "n"]) fun _ _ _ _ _ _ us hl => match us, hl with | [_, _, _], _ => rfl
  have FDReader_takes := fun_mk (st := sReader_takes) lDReader_takes cDReader_takes kDReader_takes
  have bDReader_takes := FDReader_takes.binds (ps := ["self", "line"]) fun _ _ _ _ _ _ us hl => match us, hl with | [_, _], _ => rfl
  have FDReader_close_loop := fun_mk (st := sReader_close_loop) lDReader_close_loop cDReader_close_loop kDReader_close_loop
  have bDReader_close_loop := FDReader_close_loop.binds (ps := ["self"]) fun _ _ _ _ _ _ us hl => match us, hl with | [_], _ => rfl
  have FDReader_takes_loop := fun_mk (st := sReader_takes_loop) lDReader_takes_loop cDReader_takes_loop kDReader_takes_loop
  have bDReader_takes_loop := FDReader_takes_loop.binds (ps := ["self", "words"]) fun _ _ _ _ _ _ us hl => match us, hl with | [_, _], _ => rfl
  have FDReader_takes_step := fun_mk (st := sReader_takes_step) lDReader_takes_step cDReader_takes_step kDReader_takes_step
  have bDReader_takes_step := FDReader_takes_step.binds (ps := ["self", "words"]) fun _ _ _ _ _ _ us hl => match us, hl with | [_, _], _ => rfl
  have gCD := PySem.W.mg_of X G aCD
  have g_SHAPES := PySem.W.mg_of X G w0
  have S : Shs K w sh := shs_mk w1 w2 w3 w4 w5 w6 w7 w8 w9 w10
  have gEJ := PySem.W.mg_of X G aEJ
  have gSU := PySem.W.mg_none_of X G zsu
  have gVE := PySem.W.mg_none_of X G zve
  have gEB := PySem.W.mg_of X G aEB
  rw [show defArgs sEB = (eA "line" ⟨6, 17, 6, 21⟩ ⟨6, 23, 6, 27⟩) from rfl, show defBody sEB = (eB "line" "not the text of a program" ⟨7, 8, 7, 13⟩ ⟨7, 8, 7, 15⟩ ⟨7, 8, 7, 24⟩ ⟨7, 25, 7, 52⟩ ⟨7, 8, 7, 53⟩ ⟨7, 8, 7, 53⟩ ⟨8, 8, 8, 12⟩ ⟨8, 8, 8, 17⟩ ⟨8, 20, 8, 24⟩ ⟨8, 8, 8, 24⟩) from rfl, show defScope sEB = eS "line" from rfl] at lEB
  have TB : ErrTxt l.prog K mg "BadText" "line" CB fB := { nm := nm_line, gC := gEB, cls := ⟨_, _, _, _, _, _, _, _, _, _, _, _, _, _, _, xEB, (by show PySem.HandSPX.refsVE [.type "ValueError", .type "Exception", .type "BaseException", .type "object"] = true; decide +kernel)⟩, sa := saEB, ga := gEB1, gg := gEB2, noN := nEB, iC := iEB, tC := tEB, kC := kEB, exC := eEB, veC := vEB, tyC := yEB, hdC := hEB, mrC := rEB, suC := uEB, op := zop, gS := gSU, top := ztp, fn := ⟨_, _, _, _, _, _, _, _, _, _, _, _, _, _, _, _, _, _, _, _, _, _, _, _, _, _, _, _, _, _, _, _, lEB, cEB, dEB, wEB, oEB, by decide, qEB⟩ }
  have BB : PySem.W.exmOne K (.ref CB) (.ref CJ) = some true := PySem.W.exm_ref eEJ hEJ yEJ jEB
  have XB : ExcC K CB := ⟨gEB1, gEB2, eEB, hEB, bEB1, bEB2, bEB3, bEB4⟩
  have M : Bl mg := ⟨PySem.W.mg_none_of X G z0, PySem.W.mg_none_of X G z1, PySem.W.mg_none_of X G z2, PySem.W.mg_none_of X G z3, PySem.W.mg_none_of X G z4, PySem.W.mg_none_of X G z5, PySem.W.mg_none_of X G z6, PySem.W.mg_none_of X G z7, PySem.W.mg_none_of X G z8, PySem.W.mg_none_of X G z9, PySem.W.mg_none_of X G z10, PySem.W.mg_none_of X G z11, PySem.W.mg_none_of X G z12, PySem.W.mg_none_of X G z13, PySem.W.mg_none_of X G z14, PySem.W.mg_none_of X G z15⟩
  have m_str := PySem.W.mg_none_of X G y0
  have g_MAX_DEPTH := PySem.W.mg_of X G v0
  have g_MAX_SIZE := PySem.W.mg_of X G v1
  have g_MAX_READS := PySem.W.mg_of X G v2
  have g_MAX_WRITES := PySem.W.mg_of X G v3
  have g_MAX_ROUNDS := PySem.W.mg_of X G v4
  have g_DIGITS := PySem.W.mg_of X G v5
  have g_MAX_DIGITS := PySem.W.mg_of X G v6
  have g_MARGIN := PySem.W.mg_of X G v7
  refine ⟨PySem.W.fnOf "law" "law" (defArgs sLaw) (defBody sLaw) (defScope sLaw) .none kV30 dc30 pm30 an30 cd30 ct30, fun s v => .of_eq rfl, fun base _ _ => ?_⟩
  have clD : Cls K CD := ⟨pgD, hdD, poD, saD⟩
  have DT : DTx K mg CD := ⟨clD, nD0, nD1, nD2, nD3⟩
  have KD : KAt K mg CD "Reader" "Reader.__init__" sReader_init ["self", "p", "n"] := ⟨_, _, FDReader_init, bDReader_init, ⟨mkD, aDReader_init, iDReader_init, kcD⟩, gCD⟩
  have Dtakes : MAt K CD "takes" "Reader.takes" sReader_takes ["self", "line"] := ⟨_, _, FDReader_takes, bDReader_takes, ⟨aDReader_takes, iDReader_takes, kDReader_takes⟩, clD⟩
  have Dclose_loop : MAt K CD "close_loop" "Reader.close_loop" sReader_close_loop ["self"] := ⟨_, _, FDReader_close_loop, bDReader_close_loop, ⟨aDReader_close_loop, iDReader_close_loop, kDReader_close_loop⟩, clD⟩
  have Dtakes_loop : MAt K CD "takes_loop" "Reader.takes_loop" sReader_takes_loop ["self", "words"] := ⟨_, _, FDReader_takes_loop, bDReader_takes_loop, ⟨aDReader_takes_loop, iDReader_takes_loop, kDReader_takes_loop⟩, clD⟩
  have Dtakes_step : MAt K CD "takes_step" "Reader.takes_step" sReader_takes_step ["self", "words"] := ⟨_, _, FDReader_takes_step, bDReader_takes_step, ⟨aDReader_takes_step, iDReader_takes_step, kDReader_takes_step⟩, clD⟩
  have gR : mg "MAX_ROUNDS" = some (.int (10 ^ 18) tk4) := by
    rw [show (10 : Int) ^ 18 = 1000000000000000000 from rfl]
    exact g_MAX_ROUNDS
  have hB : Has l.prog w K mg base 1 "is_between" ["value", "low", "high"] (spBtD K) := ok_btD (k := 0) M AIs_between
  have hRg := ok_regs M AAre_registers hB
  have hSp := ok_shape M AHas_shape (hB.up (by decide)) hRg
  have hIB := ok_isbody M m_str AIs_body AIs_instruction AIs_loop gR g_SHAPES S hB hSp 4
  have hWd : Has l.prog w K mg base 5 "word_count" ["program", "word"] (spWI K (okB 5)) := ok_word M AWord_count 5
  have hIP := ok_isprog (k := 17) AIs_program g_MAX_DEPTH g_MAX_SIZE g_MAX_READS g_MAX_WRITES hIB ((ok_size M ASize 5).up (by decide)) ((ok_read ARead_count hWd).up (by decide)) ((ok_write AWrite_count hWd).up (by decide))
  have hIN := ok_instr (lv := 0) M m_str AIs_instruction g_SHAPES S ((ok_loop (lv := 0) M AIs_loop gR hB (Has.none (k := 1) AIs_body fun _ _ _ _ h => h)).up (by decide)) hSp
  have hNo := ok_numA (P := l.prog) (w := w) (base := base) (k := 0) M ANumber_of g_DIGITS g_MAX_DIGITS
  have hTs := ok_tstepA (k := 4) M Dtakes_step DT (hNo.up (by decide)) hIN
  have hTl := ok_tloopA (P := l.prog) (w := w) (base := base) (k := 1) M Dtakes_loop DT g_MAX_DEPTH gR hNo hB
  have hTc := ok_tclose (P := l.prog) (w := w) (base := base) (k := 0) M Dclose_loop DT
  have hTk := ok_takesA (k := 5) M Dtakes DT ⟨_, g_MARGIN⟩ (hTc.up (by decide)) (hTl.up (by decide)) hTs
  have hRI := ok_rdinit (P := l.prog) (w := w) (base := base) (k := 16) KD DT
  have hRp := ok_readA (k := 17) M m_str TB ARead_program DT hRI (hTk.up (by decide)) hIP
  have R : ErrsB l.prog K mg CJ CB fB := ⟨TB, gEJ, PySem.W.exm_ref eEB hEB yEB jBB, XB, kkJ⟩
  have hTd := ok_told (k := 19) M R ATold hRp
  have hNl := ok_numL (P := l.prog) (w := w) (base := base) (k := 0) M ANumber
  have hLo := ok_lineop (k := 1) M ALine_op hNl
  have hWi := ok_within (P := l.prog) (w := w) (base := base) (k := 5) M AWithin (ok_instrs M AInstructions 5) (ok_total M ATotal 5)
  have hLr := ok_lread (k := 6) M ARead (hLo.up (by decide)) hWi
  have hDi := ok_digits (P := l.prog) (w := w) (base := base) (k := 0) M ADigits
  have hDr := ok_draw (P := l.prog) (w := w) (base := base) (k := 0) ADraw
  have hPi := ok_pick M APick hDr
  have hOt := ok_otherC AOther hDr
  have hIs := ok_insC (k := 2) M AInstruction (hDr.up (by decide)) hPi (hOt.up (by decide))
  have hNe := ok_nest M ANested_program (hDr.up (by decide)) (hPi.up (by decide)) (hIs.up (by decide)) (fun p n => ok_once M AOnce 5) (fun p n => ok_flatC M AFlat 5) 5
  have hLn := ok_lnsC (P := l.prog) (w := w) (base := base) M m_str ALines 5
  have hCh := ok_changed (k := 2) M AChanged (hDr.up (by decide)) hPi
  have hLaw := ok_law (k := 20) M ALaw (hDi.up (by decide)) (told_r hTd) ((lread_r hLr).up (by decide)) (hPi.up (by decide)) (hDr.up (by decide)) (hNe.up (by decide)) (hLn.up (by decide)) (hCh.up (by decide))

  obtain ⟨f, fd, c⟩ := hLaw
  cases hfa.symm.trans c.g
  cases hfa.symm.trans (PySem.W.mg_of X G a30)
  obtain ⟨_, _, _, e⟩ := c.lk
  cases e.symm.trans l30
  exact c.ok
end K58
open PySem PySem.W PyProof.Rows
set_option maxRecDepth 100000 in
set_option maxHeartbeats 0 in
theorem PySem.Challenge.cw_leastjournal_k58_texts_that_are_no_progr_holds : PySem.Challenge.rw_leastjournal_k58_texts_that_are_no_progr.Holds := by
  w_on; o_law; k_head; (case hw => w_witness2)
  k_fill
  refine Lj.walk_G (l := PySem.Challenge.rw_leastjournal_k58_texts_that_are_no_progr) (n := 63) (k := 21) (x := "_law_script") (sp := K58.spLaw) rfl (by decide) rfl ⟨rfl, by decide, by decide⟩ (fun w h Y => PySem.W.kIn_of Y) ?F (fun _ _ a ns hl _ hS => ⟨a, ns, rfl, hS, hl, fun _ => rfl⟩)
  case F =>
    intro w mg fa h KX G hmg
    refine' K58.all_mk KX G hmg ?a0 ?l0 ?c0 ?k0 ?a1 ?l1 ?c1 ?k1 ?a2 ?l2 ?c2 ?k2 ?a3 ?l3 ?c3 ?k3 ?a4 ?l4 ?c4 ?k4 ?a5 ?l5 ?c5 ?k5 ?a6 ?l6 ?c6 ?k6 ?a7 ?l7 ?c7 ?k7 ?a8 ?l8 ?c8 ?k8 ?a9 ?l9 ?c9 ?k9 ?a10 ?l10 ?c10 ?k10 ?a11 ?l11 ?c11 ?k11 ?a12 ?l12 ?c12 ?k12 ?a13 ?l13 ?c13 ?k13 ?a14 ?l14 ?c14 ?k14 ?a15 ?l15 ?c15 ?k15 ?a16 ?l16 ?c16 ?k16 ?a17 ?l17 ?c17 ?k17 ?a18 ?l18 ?c18 ?k18 ?a19 ?l19 ?c19 ?k19 ?a20 ?l20 ?c20 ?k20 ?a21 ?l21 ?c21 ?k21 ?a22 ?l22 ?c22 ?k22 ?a23 ?l23 ?c23 ?k23 ?a24 ?l24 ?c24 ?k24 ?a25 ?l25 ?c25 ?k25 ?a26 ?l26 ?c26 ?k26 ?a27 ?l27 ?c27 ?k27 ?a28 ?l28 ?c28 ?k28 ?a29 ?l29 ?c29 ?k29 ?a30 ?l30 ?c30 ?k30 ?z0 ?z1 ?z2 ?z3 ?z4 ?z5 ?z6 ?z7 ?z8 ?z9 ?z10 ?z11 ?z12 ?z13 ?z14 ?z15 ?y0 ?v0 ?v1 ?v2 ?v3 ?v4 ?v5 ?v6 ?v7 ?aCD ?aDReader_init ?iDReader_init ?lDReader_init ?cDReader_init ?kDReader_init ?aDReader_takes ?iDReader_takes ?lDReader_takes ?cDReader_takes ?kDReader_takes ?aDReader_close_loop ?iDReader_close_loop ?lDReader_close_loop ?cDReader_close_loop ?kDReader_close_loop ?aDReader_takes_loop ?iDReader_takes_loop ?lDReader_takes_loop ?cDReader_takes_loop ?kDReader_takes_loop ?aDReader_takes_step ?iDReader_takes_step ?lDReader_takes_step ?cDReader_takes_step ?kDReader_takes_step ?pgD ?hdD ?poD ?saD ?mkD ?kcD ?nD0 ?nD1 ?nD2 ?nD3 ?w0 ?w1 ?w2 ?w3 ?w4 ?w5 ?w6 ?w7 ?w8 ?w9 ?w10 ?aEJ ?eEJ ?hEJ ?yEJ ?zsu ?zve ?zop ?ztp ?aEB ?xEB ?saEB ?gEB1 ?gEB2 ?nEB ?iEB ?tEB ?kEB ?eEB ?vEB ?yEB ?hEB ?rEB ?uEB ?lEB ?cEB ?dEB ?wEB ?oEB ?qEB ?jEB ?bEB1 ?bEB2 ?bEB3 ?bEB4 ?jBB ?kkJ
    (case a0 => k_is); (case l0 => k_is); (case c0 => k_is); (case k0 => k_is); (case a1 => k_is); (case l1 => k_is); (case c1 => k_is); (case k1 => k_is); (case a2 => k_is); (case l2 => k_is); (case c2 => k_is); (case k2 => k_is); (case a3 => k_is); (case l3 => k_is); (case c3 => k_is); (case k3 => k_is); (case a4 => k_is); (case l4 => k_is); (case c4 => k_is); (case k4 => k_is); (case a5 => k_is); (case l5 => k_is); (case c5 => k_is); (case k5 => k_is); (case a6 => k_is); (case l6 => k_is); (case c6 => k_is); (case k6 => k_is); (case a7 => k_is); (case l7 => k_is); (case c7 => k_is); (case k7 => k_is); (case a8 => k_is); (case l8 => k_is); (case c8 => k_is); (case k8 => k_is); (case a9 => k_is); (case l9 => k_is); (case c9 => k_is); (case k9 => k_is); (case a10 => k_is); (case l10 => k_is); (case c10 => k_is); (case k10 => k_is); (case a11 => k_is); (case l11 => k_is); (case c11 => k_is); (case k11 => k_is); (case a12 => k_is); (case l12 => k_is); (case c12 => k_is); (case k12 => k_is); (case a13 => k_is); (case l13 => k_is); (case c13 => k_is); (case k13 => k_is); (case a14 => k_is); (case l14 => k_is); (case c14 => k_is); (case k14 => k_is); (case a15 => k_is); (case l15 => k_is); (case c15 => k_is); (case k15 => k_is); (case a16 => k_is); (case l16 => k_is); (case c16 => k_is); (case k16 => k_is); (case a17 => k_is); (case l17 => k_is); (case c17 => k_is); (case k17 => k_is); (case a18 => k_is); (case l18 => k_is); (case c18 => k_is); (case k18 => k_is); (case a19 => k_is); (case l19 => k_is); (case c19 => k_is); (case k19 => k_is); (case a20 => k_is); (case l20 => k_is); (case c20 => k_is); (case k20 => k_is); (case a21 => k_is); (case l21 => k_is); (case c21 => k_is); (case k21 => k_is); (case a22 => k_is); (case l22 => k_is); (case c22 => k_is); (case k22 => k_is); (case a23 => k_is); (case l23 => k_is); (case c23 => k_is); (case k23 => k_is); (case a24 => k_is); (case l24 => k_is); (case c24 => k_is); (case k24 => k_is); (case a25 => k_is); (case l25 => k_is); (case c25 => k_is); (case k25 => k_is); (case a26 => k_is); (case l26 => k_is); (case c26 => k_is); (case k26 => k_is); (case a27 => k_is); (case l27 => k_is); (case c27 => k_is); (case k27 => k_is); (case a28 => k_is); (case l28 => k_is); (case c28 => k_is); (case k28 => k_is); (case a29 => k_is); (case l29 => k_is); (case c29 => k_is); (case k29 => k_is); (case a30 => k_is); (case l30 => k_is); (case c30 => k_is); (case k30 => k_is); (case z0 => k_is); (case z1 => k_is); (case z2 => k_is); (case z3 => k_is); (case z4 => k_is); (case z5 => k_is); (case z6 => k_is); (case z7 => k_is); (case z8 => k_is); (case z9 => k_is); (case z10 => k_is); (case z11 => k_is); (case z12 => k_is); (case z13 => k_is); (case z14 => k_is); (case z15 => k_is); (case y0 => k_is); (case v0 => k_is); (case v1 => k_is); (case v2 => k_is); (case v3 => k_is); (case v4 => k_is); (case v5 => k_is); (case v6 => k_is); (case v7 => k_is)
    (case aCD => k_is); (case aDReader_init => k_is); (case iDReader_init => k_is); (case lDReader_init => k_is); (case cDReader_init => k_is); (case kDReader_init => k_is); (case aDReader_takes => k_is); (case iDReader_takes => k_is); (case lDReader_takes => k_is); (case cDReader_takes => k_is); (case kDReader_takes => k_is); (case aDReader_close_loop => k_is); (case iDReader_close_loop => k_is); (case lDReader_close_loop => k_is); (case cDReader_close_loop => k_is); (case kDReader_close_loop => k_is); (case aDReader_takes_loop => k_is); (case iDReader_takes_loop => k_is); (case lDReader_takes_loop => k_is); (case cDReader_takes_loop => k_is); (case kDReader_takes_loop => k_is); (case aDReader_takes_step => k_is); (case iDReader_takes_step => k_is); (case lDReader_takes_step => k_is); (case cDReader_takes_step => k_is); (case kDReader_takes_step => k_is); (case pgD => k_is); (case hdD => k_is); (case poD => k_is); (case saD => k_is); (case mkD => k_is); (case kcD => k_is); (case nD0 => k_is); (case nD1 => k_is); (case nD2 => k_is); (case nD3 => k_is); (case w0 => k_is); (case w1 => k_is); (case w2 => first | exact ⟨⟨_, _, rfl, rfl⟩, ⟨_, _, rfl, rfl⟩, ⟨_, _, rfl, rfl⟩, ⟨_, _, rfl, rfl⟩, ⟨_, _, rfl, rfl⟩, ⟨_, _, rfl, rfl⟩, ⟨_, _, rfl, rfl⟩, trivial⟩); (case w3 => rfl); (case w4 => k_is); (case w5 => k_is); (case w6 => k_is); (case w7 => k_is); (case w8 => k_is); (case w9 => k_is); (case w10 => k_is)
    (case aEJ => k_is); (case eEJ => k_is); (case hEJ => k_is); (case yEJ => k_is); (case zsu => k_is); (case zve => k_is); (case zop => k_is); (case ztp => decide +kernel); (case aEB => k_is); (case xEB => k_is); (case saEB => k_is); (case gEB1 => k_is); (case gEB2 => k_is); (case nEB => k_is); (case iEB => k_is); (case tEB => k_is); (case kEB => k_is); (case eEB => k_is); (case vEB => k_is); (case yEB => k_is); (case hEB => k_is); (case rEB => k_is); (case uEB => ks_is); (case lEB => k_is); (case cEB => k_is); (case dEB => k_is); (case wEB => rfl); (case oEB => first | rfl | decide +kernel); (case qEB => k_is); (case jEB => k_is); (case bEB1 => k_is); (case bEB2 => k_is); (case bEB3 => k_is); (case bEB4 => k_is); (case jBB => k_is); (case kkJ => kit_is)
