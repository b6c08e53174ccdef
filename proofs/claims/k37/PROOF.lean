import PyProof.Rows.All
import Wide.All
import OpenK.AllK
import Wide.FinOn
import HandS.ForMost
import HandS.Wide
import HandS.IsInst
import HandS.Flow
import HandS.Evl
import PyProof.StrBlock2
import HandS.WideBits
import HandS.Walk
import HandS.TupAny
import HandS.Zip
import HandS.SortKw
import HandS.More
import HandS.TupMul
import HandS.Style
import HandS.TupSets
import HandS.Conv
import HandS.DictTup
import HandS.TupLe
import PySem.Challenge.RW_leastjournal_k37_plans_of_any_value
set_option Elab.async false
set_option linter.all false
set_option maxRecDepth 100000
namespace Lj
open PySem PySem.Spec PyProof.Rows L2
section
variable {X : Cx}
theorem op_mulS : OpR X (binaryOp .Mult) (fun x y H Q => ∃ z n, x = .str z ∧ y = .int n ∧ MulOk z n ∧ Q (.str (Txt.mul z n)) H) := by
  intro pins s σ H x y v u Q I rx ry h
  obtain ⟨z, n, rfl, rfl, ok, q⟩ := h
  obtain ⟨t, rfl⟩ := rx
  obtain ⟨t', rfl⟩ := ry
  exact SB.mul ok fun t2 k => ⟨.str _, H, I.tok _, ⟨_, rfl⟩, q⟩
end
section
variable {X : Cx} {CX : CXT} {k : Nat} {f : Addr} {fd : FuncData} {ps ks : List Str} {sp : Sp} {E : XK} {x : Str} {p pos : Pos} {kws : List Keyword} {tk : TA}
  {g : List Value → List Value → List Value} {gV : List V → List V → List V}
/-- f(k = v, ..), no positional arguments -/
theorem pe_callK0 (F : FnOk X.prog X.w X.K X.mg X.base CX k f fd ps sp) (hr : Room k X.A) (hg : Gl X x) (hm : X.mg x = some (.ref f)) (hk : PySem.W.keepIn X.K (.ref f) = true) (hb : KBinds X.K fd ps ks g gV) (hx : Passes CX X E)
    (hkw : PK X kws tk) (hall : (backToKw pos (keywordEach kws X.env)).all (·.1.isSome) = true := by rfl) (hks : (backToKw pos (keywordEach kws X.env)).filterMap (·.1) = ks := by rfl)
    (hdb : (x == ("__debug__" : Str)) = false := by decide)
    (hpl : ((backTo pos (starEach [] X.env)).any (·.1) || (backToKw pos (keywordEach kws X.env)).any (·.1.isNone)) = false := by rfl) :
    PE X (.Call (.Name x p) [] kws pos) (fun σ H Q => tk σ H fun zs H1 => sp (gV [] zs) H1 Q E) := by
  refine ⟨fun pins s σ H Q I h => ?_⟩
  refine wpAny_Call_Name_kw (ld_glob I hg hm ?_ hdb)
  refine PySem.W.callWith_KW0 (h₀ := X.base) I.ok.mod.kin hk hall (thn (hkw.run pos pins s σ H _ I h) fun ws s2 ⟨zs, H2, I2, rz, q2⟩ => ⟨I2.kIn, ?_⟩) hpl
  rw [hks]
  exact run_fnk (us := []) (vs := []) F hr hb hx I2 .nil rz q2
end
/-! ### heaps -/
theorem same_new {H : Hp} {p : Addr} {o : HO} (h : H p = none) : Same H (upd H p o) := fun b x e => by
  rw [upd_ne (ne_of_none e h)]
  exact e
/-- all but p stands as before -/
def But (p : Addr) (H H' : Hp) : Prop := ∀ b o, b ≠ p → H b = some o → H' b = some o
theorem But.refl (p : Addr) (H : Hp) : But p H H := fun _ _ _ h => h
theorem But.trans {p : Addr} {H H1 H2 : Hp} (a : But p H H1) (b : But p H1 H2) : But p H H2 := fun c o n h => b c o n (a c o n h)
theorem But.same {p : Addr} {H H' : Hp} (s : Same H H') : But p H H' := fun b o _ h => s b o h
theorem But.new {p q : Addr} {H : Hp} {o : HO} (h : H q = none) : But p H (upd H q o) := But.same (same_new h)
theorem But.upd {p : Addr} {H : Hp} {o : HO} : But p H (upd H p o) := fun b x n e => by
  rw [upd_ne n]
  exact e
theorem But.rd {p a : Addr} {H H' : Hp} {u : HO} (b : But p H H') (n : a ≠ p) (h : Rd H a u) : Rd H' a u := by
  rcases h with h | ⟨o, h⟩
  · exact .inl (b _ _ n h)
  · exact .inr ⟨o, b _ _ n h⟩
theorem But.seq {K : PySem.W.Frag} {p a : Addr} {H H' : Hp} {xs : List V} (b : But p H H') (n : a ≠ p) (h : SqL K H a xs) : SqL K H' a xs := by
  rcases h with h | h
  · exact .inl (b.rd n h)
  · exact .inr h
theorem But.tup {K : PySem.W.Frag} {p a : Addr} {H H' : Hp} {xs : List V} (b : But p H H') (n : a ≠ p) (h : SqT K H a xs) : SqT K H' a xs := by
  rcases h with h | h
  · exact .inl (b.rd n h)
  · exact .inr h
/-! ### the urn: two numbers in a list -/
def wide : Nat := 2 ^ 1000
def Urn (H : Hp) (p : Addr) : Prop := ∃ u v : Int, H p = some (.lst [.int u, .int v]) ∧ 0 ≤ u ∧ u.natAbs < wide ∧ 0 ≤ v ∧ v < 2305843009213693951
theorem Urn.but {p q : Addr} {H H' : Hp} (b : But q H H') (n : p ≠ q) (h : Urn H p) : Urn H' p := by
  obtain ⟨u, v, e, r⟩ := h
  exact ⟨u, v, b _ _ n e, r⟩
theorem Urn.same {p : Addr} {H H' : Hp} (b : Same H H') (h : Urn H p) : Urn H' p := by
  obtain ⟨u, v, e, r⟩ := h
  exact ⟨u, v, b _ _ e, r⟩
theorem Urn.ne {p q : Addr} {H : Hp} (h : Urn H p) (e : H q = none) : q ≠ p := by
  obtain ⟨u, v, e', _⟩ := h
  exact (ne_of_none e' e).symm
theorem Urn.free {p q : Addr} {H H' : Hp} (h : Urn H' p) (b : But p H H') (e : H' q = none) : H q = none := by
  have n := h.ne e
  cases z : H q with
  | none => rfl
  | some o => rw [b _ _ n z] at e; cases e
def spUrn (K : PySem.W.Frag) : Sp := fun vs H Q _ => ∃ (a : Addr) (ns : List Int) (k : Int), vs = [.ref a, .int k] ∧ SqL K H a (ns.map V.int) ∧ 0 ≤ k ∧ k ≤ 1000 ∧
  ∀ H' p, Same H H' → H p = none → Urn H' p → Q (.ref p) H'
def spTake : Sp := fun vs H Q _ => ∃ (p : Addr) (n : Int), vs = [.ref p, .int n] ∧ Urn H p ∧ 0 < n ∧ n.natAbs < wide ∧
  ∀ (d : Int) H', 0 ≤ d → d < n → Urn H' p → But p H H' → Q (.int d) H'
def spOf (K : PySem.W.Frag) : Sp := fun vs H Q _ => ∃ (p q : Addr) (xs : List V), vs = [.ref p, .ref q] ∧ Urn H p ∧ q ≠ p ∧ SqL K H q xs ∧ xs ≠ [] ∧ xs.length ≤ 1000 ∧
  ∀ x H', x ∈ xs → Urn H' p → But p H H' → Q x H'
def urnText : Str := "1" ++ Txt.mul "0" 300
theorem urnText_int : PySem.intText? urnText = some (10 ^ 300) := by decide +kernel
theorem urnText_len : urnText.length ≤ 640 := by decide +kernel
theorem mul_ok0 : MulOk "0" 300 := ⟨by decide, fun _ _ => by decide, fun _ _ => by decide⟩
theorem small {n : Nat} (h : n ≤ 1000) : n ≤ sizeLine := Nat.le_of_lt (small1000 h)
theorem own_lt (c : Int) (b : Bool) : 0 ≤ (if c < 0 then -c else c) % 10 ^ 300 * (if b then 1 else 0) ∧ ((if c < 0 then -c else c) % 10 ^ 300 * (if b then 1 else 0)).natAbs < wide := by
  have h1 : 0 ≤ (if c < 0 then -c else c) % (10 ^ 300 : Int) := Int.emod_nonneg _ (by decide)
  have h2 : (if c < 0 then -c else c) % (10 ^ 300 : Int) < 10 ^ 300 := Int.emod_lt_of_pos _ (by decide)
  generalize (if c < 0 then -c else c) % (10 ^ 300 : Int) = z at h1 h2
  have h3 : (10 ^ 300 : Int) < (wide : Int) := by decide +kernel
  have h4 : 0 < wide := by decide +kernel
  cases b with
  | true =>
    rw [if_pos rfl, Int.mul_one]
    exact ⟨h1, by omega⟩
  | false =>
    rw [if_neg Bool.false_ne_true, Int.mul_zero]
    exact ⟨Int.le_refl 0, h4⟩
theorem ind_bd (b : Bool) : -(2 ^ 64) < (if b then 1 else 0 : Int) ∧ (if b then 1 else 0 : Int) < 2 ^ 64 := by
  cases b
  · exact ⟨by decide, by decide⟩
  · exact ⟨by decide, by decide⟩
def nx (v : Int) : Int := (v * 1181783497276652981 + 12345678910987) % 2305843009213693951
theorem nx0 (v : Int) : 0 ≤ nx v := Int.emod_nonneg _ (by decide)
theorem nx1 (v : Int) : nx v < 2305843009213693951 := Int.emod_lt_of_pos _ (by decide)
def ny (v : Int) : Int := (v * 3202034522624059733 + 1) % 2305843009213693951
theorem ny0 (v : Int) : 0 ≤ ny v := Int.emod_nonneg _ (by decide)
theorem ny1 (v : Int) : ny v < 2305843009213693951 := Int.emod_lt_of_pos _ (by decide)
theorem at_int {ns : List Int} {k : Int} (h0 : 0 ≤ k) (h : k < (ns.length : Int)) : ∃ v : Int, v ∈ ns ∧ atI (ns.map V.int) k = some (.int v) := by
  have hk : k.toNat < ns.length := by omega
  have ek : k = ((k.toNat : Nat) : Int) := by omega
  have q : atI (ns.map V.int) ((k.toNat : Nat) : Int) = some (.int ns[k.toNat]) := atI_nat (by rw [List.getElem?_map, List.getElem?_eq_getElem hk] <;> rfl)
  rw [← ek] at q
  exact ⟨ns[k.toNat], List.getElem_mem hk, q⟩
theorem at_any {xs : List V} {k : Int} (h0 : 0 ≤ k) (h : k < (xs.length : Int)) : ∃ v : V, v ∈ xs ∧ atI xs k = some v := by
  have hk : k.toNat < xs.length := by omega
  have ek : k = ((k.toNat : Nat) : Int) := by omega
  have q : atI xs ((k.toNat : Nat) : Int) = some xs[k.toNat] := atI_nat (List.getElem?_eq_getElem hk)
  rw [← ek] at q
  exact ⟨xs[k.toNat], List.getElem_mem hk, q⟩
theorem iteP {c A B : Prop} [Decidable c] (h : c) (a : A) : if decide c = true then A else B := by
  rw [decide_eq_true h]
  exact a
theorem iteN {c A B : Prop} [Decidable c] (h : ¬ c) (b : B) : if decide c = true then A else B := by
  rw [decide_eq_false h]
  exact b
/-! ### rules with the written part named: for the blocks of comprehensions -/
section
variable {X : Cx} {K : PySem.W.Frag}
theorem ix_tupK (h : X.K = K) : IxR X (rIxT K) := h ▸ ix_tup
theorem ix_listK (h : X.K = K) : IxR X (rIxL K) := h ▸ ix_list
def rLenS (K : PySem.W.Frag) : List V → Hp → VK → Prop := fun xs H Q => ∃ p ys, xs = [.ref p] ∧ (SqL K H p ys ∨ SqT K H p ys) ∧ Q (.int ys.length) H
theorem call_len_seqK (h : X.K = K) : CallR X (.builtin "len") (rLenS K) := h ▸ call_len_seq
end
end Lj
set_option Elab.async false
set_option linter.all false
set_option maxRecDepth 100000
namespace Lj
open PySem PySem.Spec PyProof.Rows L2
/-! ### promises of defs that are called where no repr is under way -/
/-- the def at f keeps sp wherever nothing is being shown -/
structure FnG (P : Program) (w : World) (K : PySem.W.Frag) (mg : Str → Option Value) (base : Heap) (k : Nat) (f : Addr) (fd : FuncData) (ps : List Str) (sp : Sp) : Prop where
  len : ∀ vs H Q E, sp vs H Q E → vs.length = ps.length
  run : ∀ (A : Around) (out : List Env) (s : Shared) (H : Hp) (as : Args) (us : List Value) (vs : List V) (Q : VK) (E : XK), A.guards = some [] → Room k A → Env0 P w K mg base A out s H →
    BindsTo s fd as (ps.zip us) → Vals vs us → sp vs H Q E → codeAny (model P w) A (.call (.ref f) as) (CR CX0 out P w H s Q E) s
section
variable {P : Program} {w : World} {K : PySem.W.Frag} {mg : Str → Option Value} {base : Heap} {j k : Nat} {f : Addr} {fd : FuncData} {ps : List Str} {sp sp' : Sp}
theorem FnG.of (F : FnOk P w K mg base CX0 k f fd ps sp) : FnG P w K mg base k f fd ps sp := ⟨F.len, fun A out s H as us vs Q E _ => F.run A out s H as us vs Q E⟩
theorem FnG.up (F : FnG P w K mg base j f fd ps sp) (h : j ≤ k) : FnG P w K mg base k f fd ps sp := ⟨F.len, fun A out s H as us vs Q E g r => F.run A out s H as us vs Q E g (r.mono h)⟩
theorem FnG.weak (F : FnG P w K mg base k f fd ps sp) (h : ∀ vs H Q E, sp' vs H Q E → sp vs H Q E) : FnG P w K mg base k f fd ps sp' :=
  ⟨fun vs H Q E q => F.len vs H Q E (h _ _ _ _ q), fun A out s H as us vs Q E g r e b v q => F.run A out s H as us vs Q E g r e b v (h _ _ _ _ q)⟩
/-- by the def's body, where nothing is being shown -/
theorem FnG.body {x qual : Str} {st : Stmt} {N : List Str} (F : Fun K x qual st f fd) (S : FnScope N ps (defScope st)) (len : ∀ vs H Q E, sp vs H Q E → vs.length = ps.length)
    (hb : ∀ (cdv : Value) (A : Around) (out : List Env) (s : Shared) (H : Hp) (vs : List V) (Q : VK) (E : XK), A.guards = some [] → Room k (A.deeper (envOfC qual (defScope st) s.heap.objs.size f cdv)) → sp vs H Q E →
      ∃ t, PSs (cxOf CX0 P w K mg base N qual (defScope st) f cdv A out s H E).nox (defBody st) t ∧ t { nx := fun _ H' => Q .non H', rt := Q } (start N vs) H) : FnG P w K mg base (k + 1) f fd ps sp := by
  obtain ⟨c0, c1, c2, c3, c4, c5, cd, c6, c7, rfl, look, code⟩ := F.ex
  refine ⟨len, fun A out s H as us vs Q E hg room env bind vals want => ?_⟩
  have ln := len _ _ _ _ want
  have old : ∀ b o, base.get? b = some o → s.heap.get? b = some o := fun b o e => (env.bs b o e).1
  have here : K.In s.heap := env.mod.kin.keeps old
  refine codeAny_call_function room.depth (here _ _ look) rfl S.co S.gen rfl (PySem.W.codeRec_of here code) (bind _ _ _ _ ?_)
  refine wpAny_newFunctionEnv_cells S.kind (fun ⟨n, v⟩ m => (S.par n (List.of_mem_zip m).1).elim .inl fun c => .inr ⟨c, PySem.W.cellsFrom_some _ _ _ (.inl c)⟩) fun en he s1 x => ?_
  subst he
  refine ⟨(env.mod.nolimit.keeps old).keeps x.toInCall.keep, codeAny_func ?_⟩
  obtain ⟨t, rule, holds⟩ := hb cd A out s H vs Q E hg (room.deeper _) want
  have start0 := inv_start (CX := CX0) (E := E) S room.hd env ln vals x
  refine wpAny_mono (rule.nox.run [] s1 (start N vs) H _ start0 holds) (fun r s' z => ?_) fun _ _ z => z
  match r, z with
  | .ret u, ⟨v, σ', H', J, rv, q⟩ => exact ⟨v, H', J.os, J.bare, J.base, J.hok, rv, q⟩
  | .next, ⟨σ', H', J, q⟩ => exact ⟨.non, H', J.os, J.bare, J.base, J.hok, rfl, q⟩
  | .brk, ⟨_, _, _, q⟩ => exact False.elim q
  | .cont, ⟨_, _, _, q⟩ => exact False.elim q
end
/-- where a def stands, under the name x, with its promise -/
structure Cal (P : Program) (w : World) (K : PySem.W.Frag) (mg : Str → Option Value) (base : Heap) (k : Nat) (x : Str) (ps : List Str) (f : Addr) (fd : FuncData) (sp : Sp) : Prop where
  ok : FnG P w K mg base k f fd ps sp
  kp : PySem.W.keepIn K (.ref f) = true
  b : Binds K fd ps []
  g : mg x = some (.ref f)
  lk : ∃ oc od osl, K.lookup f = some ⟨oc, od, .func fd, osl⟩
theorem fun_lk {K : PySem.W.Frag} {x qual : Str} {st : Stmt} {f : Addr} {fd : FuncData} (F : Fun K x qual st f fd) : ∃ oc od osl, K.lookup f = some ⟨oc, od, .func fd, osl⟩ := by
  obtain ⟨c0, c1, c2, c3, c4, c5, cd, c6, c7, e, look, code⟩ := F.ex
  exact ⟨_, _, _, look⟩
def Has (P : Program) (w : World) (K : PySem.W.Frag) (mg : Str → Option Value) (base : Heap) (k : Nat) (x : Str) (ps : List Str) (sp : Sp) : Prop := ∃ f fd, Cal P w K mg base k x ps f fd sp
/-- the def of the text st stands under the name x -/
def At (K : PySem.W.Frag) (mg : Str → Option Value) (x : Str) (st : Stmt) (ps : List Str) : Prop := ∃ f fd, Fun K x x st f fd ∧ Binds K fd ps [] ∧ mg x = some (.ref f)
section
variable {P : Program} {w : World} {K : PySem.W.Frag} {mg : Str → Option Value} {base : Heap} {j k : Nat} {x : Str} {ps : List Str} {sp sp' : Sp}
theorem Has.up (h : Has P w K mg base j x ps sp) (l : j ≤ k) : Has P w K mg base k x ps sp := by
  obtain ⟨f, fd, c⟩ := h
  exact ⟨f, fd, c.ok.up l, c.kp, c.b, c.g, c.lk⟩
theorem Has.weak (h : Has P w K mg base k x ps sp) (i : ∀ vs H Q E, sp' vs H Q E → sp vs H Q E) : Has P w K mg base k x ps sp' := by
  obtain ⟨f, fd, c⟩ := h
  exact ⟨f, fd, c.ok.weak i, c.kp, c.b, c.g, c.lk⟩
theorem Has.by {st : Stmt} {N : List Str} (F : At K mg x st ps) (S : FnScope N ps (defScope st)) (len : ∀ vs H Q E, sp vs H Q E → vs.length = ps.length)
    (hb : ∀ (f : Addr) (cdv : Value) (A : Around) (out : List Env) (s : Shared) (H : Hp) (vs : List V) (Q : VK) (E : XK), A.guards = some [] → Room k (A.deeper (envOfC x (defScope st) s.heap.objs.size f cdv)) → sp vs H Q E →
      ∃ t, PSs (cxOf CX0 P w K mg base N x (defScope st) f cdv A out s H E).nox (defBody st) t ∧ t { nx := fun _ H' => Q .non H', rt := Q } (start N vs) H) : Has P w K mg base (k + 1) x ps sp := by
  obtain ⟨f, fd, F, b, g⟩ := F
  exact ⟨f, fd, .body F S len (hb f), F.kp, b, g, fun_lk F⟩
end
/-- the def behind a name is the text's -/
theorem Cal.text {P : Program} {w : World} {K : PySem.W.Frag} {mg : Str → Option Value} {base : Heap} {k : Nat} {x : Str} {ps qs : List Str} {f : Addr} {fd : FuncData} {sp : Sp} {st : Stmt} (c : Cal P w K mg base k x ps f fd sp) (F : At K mg x st qs) : Fun K x x st f fd := by
  obtain ⟨f2, fd2, F2, _, g2⟩ := F
  have e := c.g.symm.trans g2
  cases e
  obtain ⟨_, _, _, l1⟩ := c.lk
  obtain ⟨_, _, _, l2⟩ := fun_lk F2
  have e := l1.symm.trans l2
  cases e
  exact F2
section
variable {X : Cx} {k : Nat} {x : Str} {ps ks : List Str} {f : Addr} {fd : FuncData} {sp : Sp} {p pos : Pos} {e : Expr} {es : List Expr} {kws : List Keyword} {t tk : TA}
  {g : List Value → List Value → List Value} {gV : List V → List V → List V}
def tCal (sp : Sp) (t : TA) : TE := fun σ H Q => t σ H fun vs H1 => sp vs H1 Q E0
def tCal0 (sp : Sp) : TE := fun _ H Q => sp [] H Q E0
def tCalK (sp : Sp) (gV : List V → List V → List V) (t tk : TA) : TE := fun σ H Q => t σ H fun vs H1 => tk σ H1 fun zs H2 => sp (gV vs zs) H2 Q E0
theorem cal_run {pins : List (Addr × Obj)} {σ : L2.St} {H : Hp} {s : Shared} {Q : VK} {us ws zs : List Value} {vs : List V} {kw : List (Str × Value)} {s2 : Shared} (c : FnG X.prog X.w X.K X.mg X.base k f fd ps sp) (hg : X.A.guards = some []) (hr : Room k X.A)
    (I : Inv X pins σ H s) (bind : BindsTo s fd ⟨us, kw⟩ (ps.zip zs)) (vals : Vals vs zs) (h : sp vs H Q E0) : wpAny (model X.prog X.w) X.A (call (.ref f) us kw) (EP X pins σ Q) X.xe s := by
  refine wpAny_call (codeAny_mono (c.run X.A X.stack s H ⟨us, kw⟩ zs vs Q E0 hg hr I.env0 bind vals h) fun r s' z => ?_)
  match r, z with
  | .error _, z => exact z.elim
  | .ok (.ret _), z => exact I.after z
  | .ok .next, z => exact z.elim
  | .ok .brk, z => exact z.elim
  | .ok .cont, z => exact z.elim
/-- f(e, ..) -/
theorem pe_cal (c : Cal X.prog X.w X.K X.mg X.base k x ps f fd sp) (hg : X.A.guards = some []) (hr : Room k X.A) (gl : Gl X x) (ha : PA X (e :: es) t) (hdb : (x == ("__debug__" : Str)) = false := by decide)
    (he : starEach (e :: es) X.env = (false, eval e X.env) :: starEach es X.env := by rfl) (hpl : (backTo pos (starEach es X.env)).any (·.1) = false := by rfl) :
    PE X (.Call (.Name x p) (e :: es) [] pos) (tCal sp t) := by
  refine ⟨fun pins s σ H Q I h => wpAny_Call_Name_kw (ld_glob I gl c.g ?_ hdb)⟩
  refine PySem.W.callWith_K (h₀ := X.base) I.ok.mod.kin c.kp (thn (ha.run pos pins s σ H _ I h) fun us s1 ⟨vs, H1, I1, r, q⟩ => ⟨I1.kIn, ?_⟩) he hpl
  have ln : (us ++ []).length = ps.length := by
    rw [List.append_nil, ← r.length]
    exact c.ok.len _ _ _ _ q
  have bd := c.b s1 us I1.kIn ln
  rw [List.append_nil] at bd
  exact cal_run (ws := []) (s2 := s1) c.ok hg hr I1 bd r q
/-- f() -/
theorem pe_cal0 (c : Cal X.prog X.w X.K X.mg X.base k x ps f fd sp) (hg : X.A.guards = some []) (hr : Room k X.A) (gl : Gl X x) (hdb : (x == ("__debug__" : Str)) = false := by decide) :
    PE X (.Call (.Name x p) [] [] pos) (tCal0 sp) := by
  refine ⟨fun pins s σ H Q I h => wpAny_Call_Name_kw (ld_glob I gl c.g ?_ hdb)⟩
  have ln := c.ok.len _ _ _ _ h
  exact PySem.W.callWith_K0 I.kIn c.kp (cal_run (ws := []) (zs := []) (s2 := s) c.ok hg hr I (c.b s [] I.kIn ln) .nil h)
/-- f(e, .., n = v, ..) and f(n = v, ..) -/
theorem pe_calK (c : Cal X.prog X.w X.K X.mg X.base k x ps f fd sp) (hb : KBinds X.K fd ps ks g gV) (hg : X.A.guards = some []) (hr : Room k X.A) (gl : Gl X x) (ha : PA X (e :: es) t) (hkw : PK X kws tk)
    (hall : (backToKw pos (keywordEach kws X.env)).all (·.1.isSome) = true := by rfl) (hks : (backToKw pos (keywordEach kws X.env)).filterMap (·.1) = ks := by rfl) (hdb : (x == ("__debug__" : Str)) = false := by decide)
    (he : starEach (e :: es) X.env = (false, eval e X.env) :: starEach es X.env := by rfl)
    (hpl : ((backTo pos (starEach (e :: es) X.env)).any (·.1) || (backToKw pos (keywordEach kws X.env)).any (·.1.isNone)) = false := by rfl) :
    PE X (.Call (.Name x p) (e :: es) kws pos) (tCalK sp gV t tk) := by
  refine ⟨fun pins s σ H Q I h => wpAny_Call_Name_kw (ld_glob I gl c.g ?_ hdb)⟩
  refine PySem.W.callWith_KW (h₀ := X.base) I.ok.mod.kin c.kp hall (thn (ha.run pos pins s σ H _ I h) fun us s1 ⟨vs, H1, I1, r, q⟩ => ?_) hpl he
  refine thn (hkw.run pos pins s1 σ H1 _ I1 q) fun ws s2 ⟨zs, H2, I2, rz, q2⟩ => ⟨I2.kIn, ?_⟩
  rw [hks]
  have r2 := hb.rel r rz
  exact cal_run (ws := []) (s2 := s2) c.ok hg hr I2 (hb.to s2 us ws I2.kIn (by rw [← r2.length]; exact c.ok.len _ _ _ _ q2)) r2 q2
theorem pe_calK0 (c : Cal X.prog X.w X.K X.mg X.base k x ps f fd sp) (hb : KBinds X.K fd ps ks g gV) (hg : X.A.guards = some []) (hr : Room k X.A) (gl : Gl X x) (hkw : PK X kws tk)
    (hall : (backToKw pos (keywordEach kws X.env)).all (·.1.isSome) = true := by rfl) (hks : (backToKw pos (keywordEach kws X.env)).filterMap (·.1) = ks := by rfl) (hdb : (x == ("__debug__" : Str)) = false := by decide)
    (hpl : ((backTo pos (starEach [] X.env)).any (·.1) || (backToKw pos (keywordEach kws X.env)).any (·.1.isNone)) = false := by rfl) :
    PE X (.Call (.Name x p) [] kws pos) (tCalK sp gV tNil tk) := by
  refine ⟨fun pins s σ H Q I h => wpAny_Call_Name_kw (ld_glob I gl c.g ?_ hdb)⟩
  refine PySem.W.callWith_KW0 (h₀ := X.base) I.ok.mod.kin c.kp hall (thn (hkw.run pos pins s σ H _ I h) fun ws s2 ⟨zs, H2, I2, rz, q2⟩ => ⟨I2.kIn, ?_⟩) hpl
  rw [hks]
  have r2 := hb.rel (vs := []) (us := []) .nil rz
  exact cal_run (ws := []) (s2 := s2) c.ok hg hr I2 (hb.to s2 [] ws I2.kIn (by rw [← r2.length]; exact c.ok.len _ _ _ _ q2)) r2 q2
end
/-! ### repr of data -/
theorem repr_flat {P : Program} {w : World} {A : Around} {E : Value → Shared → Prop} {s : Shared} {u : Value} {d : PyData} {as : List Addr} {Q : Value → Shared → Prop} (r : Reads s.heap u d as) (sh : d.showable = true) (nd : d.hasDict = false) (hg : A.guards = some []) (hu : A.units + (d.depth + 1) < cLine) (sz : d.shown.length ≤ sizeLine)
    (hQ : ∀ h' t tk, (∀ b o, s.heap.get? b = some o → h'.get? b = some o) → Q (.str d.shown t) { s with heap := h', toks := tk }) : wpAny (model P w) A (call (.builtin "repr") [u]) Q E s := by
  have no : ∀ b o, s.heap.get? b = some o → s.heap.get? b = some o := fun _ _ e => e
  cases r with
  | none => exact _root_.PySem.P.repr_of_none (hQ s.heap s.toks (s.toks + 1) no)
  | bool b =>
    refine _root_.PySem.P.repr_of_bool ?_
    cases b
    · exact hQ s.heap s.toks (s.toks + 1) no
    · exact hQ s.heap s.toks (s.toks + 1) no
  | int i t => exact _root_.PySem.P.repr_of_int (of_decide_eq_true sh) (hQ s.heap s.toks (s.toks + 1) no)
  | str x t => exact _root_.PySem.P.repr_of_str (hQ s.heap s.toks (s.toks + 1) no) sz
  | list a b c d => exact PySem.repr_of_reads' (.list a b c d) sh (fun z => by rw [nd] at z; cases z) hg hu no (fun h' t tk z => hQ h' t tk z) sz
  | tuple a b c d => exact PySem.repr_of_reads' (.tuple a b c d) sh (fun z => by rw [nd] at z; cases z) hg hu no (fun h' t tk z => hQ h' t tk z) sz
  | dict a b c d e => cases nd
section
variable {X : Cx} {k : Nat}
/-- repr(x), x data without dicts -/
theorem call_reprD (hg : X.A.guards = some []) (hr : Room k X.A) : CallR X (.builtin "repr") (fun xs H Q => ∃ x d, xs = [x] ∧ Dp X.K H x d ∧ d.showable = true ∧ d.hasDict = false ∧ d.depth ≤ 64 ∧ d.shown.length ≤ sizeLine ∧ Q (.str d.shown) H) := by
  intro pins s σ H xs us Q I r h
  obtain ⟨x, d, rfl, dp, sh, nd, de, sz, q⟩ := h
  obtain ⟨u, rfl, ru⟩ := r.one
  obtain ⟨as, rd⟩ := Dp.reads I d x u dp ru
  have un := hr.un
  exact repr_flat rd sh nd hg (by omega) sz fun h' t tk keep => ⟨.str _, H, I.kept keep, ⟨_, rfl⟩, q⟩
end
def rRepr (K : PySem.W.Frag) : List V → Hp → VK → Prop := fun xs H Q => ∃ x d, xs = [x] ∧ Dp K H x d ∧ d.showable = true ∧ d.hasDict = false ∧ d.depth ≤ 64 ∧ d.shown.length ≤ sizeLine ∧ Q (.str d.shown) H
theorem call_reprDK {X : Cx} {K : PySem.W.Frag} {k : Nat} (h : X.K = K) (hg : X.A.guards = some []) (hr : Room k X.A) : CallR X (.builtin "repr") (rRepr K) := h ▸ call_reprD hg hr
/-! ### the end: the law's promise where the claim's caller calls it -/
theorem end_call {P : Program} {w : World} {K : PySem.W.Frag} {mg mb : Str → Option Value} {k : Nat} {fa a : Addr} {fd : FuncData} {x : Str} {sp : Sp} {s : Shared} {vs : List Value} {ns : List Int}
    (kin : K.In s.heap) (glob : s.heap.Ns mainGlobals mg) (blt : s.heap.Ns builtinsNs mb) (same : ∀ x : Str, x ≠ "__name__" → mb x = bootBuiltins x) (lim : s.heap.NoLimit) (gens : s.gens = #[])
    (obj : s.heap.get? a = some { cls := .type "list", data := .seq vs.toArray }) (numb : IntsAre vs ns) (short : ns.length ≤ sizeLine) (room : Room k callerA)
    (F : ∀ base : Heap, K.In base → base.Ns mainGlobals mg → FnG P w K mg base k fa fd [x] sp) (bind : ∀ (s : Shared) (u : Value), BindsTo s fd ⟨[u], []⟩ [(x, u)])
    (want : ∀ H : Hp, Only H → SqL K H a (ns.map V.int) → sp [.ref a] H (fun v _ => v = .bl true) fun _ _ _ => False) :
    codeAny (model P w) callerA (.call (.ref fa) ⟨[.ref a], []⟩) (fun r s' => r = .ok (.ret (.bool true)) ∧ OldK s.heap s'.heap ∧ s'.os = s.os ∧ AllBare s'.gens) s := by
  have vals := vals_ints numb
  -- one step: whatever part H of the script's object is tracked
  have go : ∀ H : Hp, Only H → SqL K H a (ns.map V.int) → HOk P w H s.heap → (∀ b, H b ≠ none → b = a ∧ K.lookup a = none) →
      codeAny (model P w) callerA (.call (.ref fa) ⟨[.ref a], []⟩) (fun r s' => r = .ok (.ret (.bool true)) ∧ OldK s.heap s'.heap ∧ s'.os = s.os ∧ AllBare s'.gens) s := by
    intro H only sq hok at1
    have untracked : ∀ {b : Addr} {o : Obj} {es : Array DictEntry} {n : Nat}, s.heap.get? b = some o → o.data = .dict es n → H b = none := fun {b o es n} e d => by
      by_cases z : H b = none
      · exact z
      · have e2 := (at1 b z).1
        subst e2
        rw [obj] at e
        cases e
        cases d
    have names : ∀ {b : Addr} {m : Str → Option Value}, s.heap.Ns b m → (hidT s.heap H).Ns b m := fun {b m} ⟨o, es, n, e, d, r⟩ => ⟨o, es, n, hidT_get e (untracked e d), d, r⟩
    have kin2 : K.In (hidT s.heap H) := fun b o e => by
      refine hidT_get (kin b o e) ?_
      by_cases z : H b = none
      · exact z
      · obtain ⟨z1, z2⟩ := at1 b z
        rw [z1, z2] at e
        cases e
    obtain ⟨mc, l1, l2⟩ := lim
    have env : Env0 P w K mg (hidT s.heap H) callerA [] s H :=
      ⟨rfl, ⟨kin2, names glob, ⟨mb, names blt, same⟩, ⟨mc, names l1, l2⟩⟩, fun b o e => of_hidT e, Nat.le_of_eq (hidT_size _ _), trivial, fun b m => absurd (show b ∈ ([] : List Addr) from m) List.not_mem_nil, hok, AllBare.of_eq gens⟩
    refine codeAny_mono ((F _ kin2 (names glob)).run callerA [] s H ⟨[.ref a], []⟩ [.ref a] [.ref a] _ _ rfl room env (bind s (.ref a)) (.cons rfl .nil) (want H only sq)) fun r s' z => ?_
    match r, z with
    | .error _, z => exact z.elim
    | .ok .next, z => exact z.elim
    | .ok .brk, z => exact z.elim
    | .ok .cont, z => exact z.elim
    | .ok (.ret u), ⟨v, H', os, bare, un, hok2, rv, q⟩ =>
      have q : v = .bl true := q
      subst q
      obtain rfl : u = Value.bool true := rv
      refine ⟨rfl, OldK.of_keep fun b o e => ?_, os, bare⟩
      by_cases z : H b = none
      · exact un.keep b o e z (fun m => absurd (show b ∈ ([] : List Addr) from m) List.not_mem_nil) List.not_mem_nil
      · rcases only b with y | ⟨ob, xs, y⟩
        · exact absurd y z
        · have e1 := (hok b _ y).1
          have e2 := (hok2 b _ (un.frzs b ob _ y)).1
          rw [e] at e1
          cases e1
          exact e2
  by_cases hk : K.lookup a = none
  · refine go (fun b => if b = a then some (.frz { cls := .type "list", data := .seq vs.toArray } (.lst (ns.map V.int))) else none) (fun b => ?_) (.inl (.inr ⟨_, if_pos rfl⟩)) (fun b u e => ?_) (fun b e => ?_)
    · by_cases y : b = a
      · exact .inr ⟨_, _, if_pos y⟩
      · exact .inl (if_neg y)
    · by_cases y : b = a
      · cases (if_pos y).symm.trans e
        subst y
        exact ⟨obj, by rw [List.length_map]; exact short, vs, _, vals, obj⟩
      · cases (if_neg y).symm.trans e
    · by_cases y : b = a
      · exact ⟨y, hk⟩
      · exact absurd (if_neg y) e
  · obtain ⟨o, ho⟩ := Option.ne_none_iff_exists'.mp hk
    have e := kin a o ho
    rw [obj] at e
    cases e
    refine go (fun _ => none) (fun _ => .inl rfl) (.inr ⟨_, vs.toArray, _, ho, rfl, rfl, rfl, ?_, vals⟩) (fun b u e => by cases e) (fun b e => absurd rfl e)
    rw [List.size_toArray, numb.length]
    exact short
theorem walk_G {l : PySem.W.OpenLaw} {n k : Nat} {q : Program} {loose : List Str} {XP : (Str → Option Value) → Heap → Prop} {YP : World → Heap → Prop} {d : DefRec} {K : Params → PySem.W.Frag} {sp : PySem.W.Frag → Sp} {x : Str}
    (hn : l.most = some n) (hn2 : n ≤ sizeLine) (hdf : d.params.defaults = []) (hr : Room k callerA) (hY : ∀ (w : World) (h : Heap), YP w h → (K w.params).In h)
    (F : ∀ (w : World) (mg : Str → Option Value) (fa : Addr) (h : Heap), (K w.params).In h → h.Ns mainGlobals mg → mg d.name = some (.ref fa) →
      ∃ fd : FuncData, (∀ (s : Shared) (u : Value), BindsTo s fd ⟨[u], []⟩ [(x, u)]) ∧ ∀ base : Heap, (K w.params).In base → base.Ns mainGlobals mg → FnG l.prog w (K w.params) mg base k fa fd [x] (sp (K w.params)))
    (want : ∀ (K : PySem.W.Frag) (H : Hp) (a : Addr) (ns : List Int), ns.length ≤ n → Only H → SqL K H a (ns.map V.int) → sp K [.ref a] H (fun v _ => v = .bl true) fun _ _ _ => False) :
    PySem.W.WalkO q loose XP YP l.row.toRowW d [] (fun f vs => PySem.call f vs) := by
  refine Att.attach_call hn hdf fun w s0 s mg mb fa o pm cd doc a vs ns G Y _ _ _ hmg obj numb short gens => ?_
  have kin := hY w _ Y
  obtain ⟨fd, bind, ok⟩ := F w mg fa _ kin G.T.g hmg
  exact end_call kin G.T.g G.T.b G.T.builtins G.T.nolimit gens obj numb (Nat.le_trans short hn2) hr ok bind fun H o sq => want _ H a ns short o sq
end Lj
set_option Elab.async false
set_option linter.all false
set_option maxRecDepth 100000
namespace Lj
open PySem PySem.Spec PyProof.Rows L2
/-- the built-ins are not hidden by names of the module -/
structure Bl (mg : Str → Option Value) : Prop where
  len_ : mg "len" = none
  abs_ : mg "abs" = none
  int_ : mg "int" = none
  range_ : mg "range" = none
  max_ : mg "max" = none
  min_ : mg "min" = none
  all_ : mg "all" = none
  sum_ : mg "sum" = none
  list_ : mg "list" = none
  tuple_ : mg "tuple" = none
  isinstance_ : mg "isinstance" = none
  bool_ : mg "bool" = none
  repr_ : mg "repr" = none
  enumerate_ : mg "enumerate" = none
  zip_ : mg "zip" = none
  divmod_ : mg "divmod" = none
theorem Has.none {P : Program} {w : World} {K : PySem.W.Frag} {mg : Str → Option Value} {base : Heap} {k : Nat} {x : Str} {ps : List Str} {sp : Sp} {st : Stmt} (F : At K mg x st ps) (no : ∀ vs H Q E, ¬ sp vs H Q E) : Has P w K mg base k x ps sp := by
  obtain ⟨f, fd, F, b, g⟩ := F
  exact ⟨f, fd, ⟨fun vs H Q E h => absurd h (no vs H Q E), fun A out s H as us vs Q E _ _ _ _ _ h => absurd h (no vs H Q E)⟩, F.kp, b, g, fun_lk F⟩
/-! ### trees: instructions -/
inductive Tr where
  | op (w : Str) (as : List Int)
  | loop (k : Int) (b : List Tr)
mutual
def Tr.len : Tr → Int
  | .op _ _ => 1
  | .loop k b => k * lens b
def lens : List Tr → Int
  | [] => 0
  | t :: r => t.len + lens r
end
mutual
def Tr.inn : Tr → Int
  | .op _ _ => 0
  | .loop _ b => (b.length : Int) + inns b
def inns : List Tr → Int
  | [] => 0
  | t :: r => t.inn + inns r
end
def szs (b : List Tr) : Int := (b.length : Int) + inns b
mutual
def Tr.dep : Tr → Int
  | .op _ _ => 0
  | .loop _ b => 1 + deps b
def deps : List Tr → Int
  | [] => 0
  | t :: r => if t.dep > deps r then t.dep else deps r
end
mutual
def Tr.cnt (w : Str) : Tr → Int
  | .op u _ => if u = w then 1 else 0
  | .loop k b => k * cnts w b
def cnts (w : Str) : List Tr → Int
  | [] => 0
  | t :: r => t.cnt w + cnts w r
end
mutual
/-- what is executed, one after another -/
def Tr.ex : Tr → List Tr
  | .op w as => [.op w as]
  | .loop k b => (List.replicate k.toNat (exs b)).flatten
def exs : List Tr → List Tr
  | [] => []
  | t :: r => t.ex ++ exs r
end
mutual
/-- loops at most n deep, the words of the others not loop -/
def Tr.wf : Tr → Nat → Prop
  | .op w _, _ => w ≠ "loop"
  | .loop _ _, 0 => False
  | .loop k b, n + 1 => 0 ≤ k ∧ k ≤ 10 ^ 18 ∧ b.length ≤ 1000 ∧ wfs b n
def wfs : List Tr → Nat → Prop
  | [], _ => True
  | t :: r, n => t.wf n ∧ wfs r n
end
/-- a body for functions that may go n - 1 loops down -/
def okB : Nat → List Tr → Prop
  | 0, _ => False
  | n + 1, b => wfs b n ∧ b.length ≤ 1000
theorem lens_map : ∀ b : List Tr, lens b = (b.map Tr.len).sum
  | [] => rfl
  | t :: r => by rw [lens, lens_map r, List.map_cons, List.sum_cons]
theorem inns_map : ∀ b : List Tr, inns b = (b.map Tr.inn).sum
  | [] => rfl
  | t :: r => by rw [inns, inns_map r, List.map_cons, List.sum_cons]
theorem cnts_map (w : Str) : ∀ b : List Tr, cnts w b = (b.map (Tr.cnt w)).sum
  | [] => rfl
  | t :: r => by rw [cnts, cnts_map w r, List.map_cons, List.sum_cons]
theorem exs_map : ∀ b : List Tr, exs b = (b.map Tr.ex).flatten
  | [] => rfl
  | t :: r => by rw [exs, exs_map r, List.map_cons, List.flatten_cons]
theorem wfs_get : ∀ {b : List Tr} {n i : Nat} {t : Tr}, wfs b n → b[i]? = some t → t.wf n
  | [], _, _, _, _, e => by simp at e
  | t :: r, n, 0, u, h, e => by
    cases e
    rw [wfs] at h
    exact h.1
  | t :: r, n, i + 1, u, h, e => by
    rw [wfs] at h
    exact wfs_get (i := i) h.2 e
theorem wfs_all : ∀ {b : List Tr} {n : Nat}, (∀ t ∈ b, t.wf n) → wfs b n
  | [], _, _ => by rw [wfs]; trivial
  | t :: r, n, h => by
    rw [wfs]
    exact ⟨h t List.mem_cons_self, wfs_all fun u m => h u (List.mem_cons_of_mem _ m)⟩
theorem okB_loop {b b' : List Tr} {n i : Nat} {k : Int} (h : okB (n + 1) b) (e : b[i]? = some (.loop k b')) : 0 ≤ k ∧ k ≤ 10 ^ 18 ∧ okB n b' := by
  have z := wfs_get h.1 e
  cases n with
  | zero => rw [Tr.wf] at z; exact z.elim
  | succ m =>
    rw [Tr.wf] at z
    exact ⟨z.1, z.2.1, z.2.2.2, z.2.2.1⟩
theorem okB_op {b : List Tr} {n i : Nat} {w : Str} {as : List Int} (h : okB (n + 1) b) (e : b[i]? = some (.op w as)) : w ≠ "loop" := by
  have z := wfs_get h.1 e
  rw [Tr.wf] at z
  exact z
theorem at0 {x : V} {xs : List V} : atI (x :: xs) 0 = some x := atI_nat (j := 0) rfl
theorem sum_next {f : Tr → Int} {b : List Tr} {i : Nat} {t : Tr} (e : b[i]? = some t) : ((b.take (i + 1)).map f).sum = ((b.take i).map f).sum + f t := by
  rw [List.take_add_one, e, List.map_append, List.sum_append]
  show _ + (f t + 0) = _
  rw [Int.add_zero]
theorem map_next {α : Type} {f : Tr → α} {b : List Tr} {i : Nat} {t : Tr} (e : b[i]? = some t) : (b.take (i + 1)).map f = (b.take i).map f ++ [f t] := by
  rw [List.take_add_one, e, List.map_append]
  rfl
/-! ### trees in the heap -/
def Kt (H H' : Hp) : Prop := ∀ a xs, Rd H a (.tup xs) → Rd H' a (.tup xs)
theorem Kt.refl (H : Hp) : Kt H H := fun _ _ h => h
theorem Kt.trans {H H1 H2 : Hp} (a : Kt H H1) (b : Kt H1 H2) : Kt H H2 := fun c o h => b c o (a c o h)
theorem Kt.same {H H' : Hp} (s : Same H H') : Kt H H' := fun a xs h => by
  rcases h with h | ⟨o, h⟩
  · exact .inl (s _ _ h)
  · exact .inr ⟨o, s _ _ h⟩
theorem Kt.but {p : Addr} {H H' : Hp} {xs : List V} (b : But p H H') (e : H p = some (.lst xs)) : Kt H H' := fun a ys h => by
  refine b.rd (fun z => ?_) h
  subst z
  rcases h with h | ⟨o, h⟩
  · rw [e] at h; cases h
  · rw [e] at h; cases h
theorem Urn.kt {p : Addr} {H H' : Hp} (u : Urn H p) (b : But p H H') : Kt H H' := by
  obtain ⟨_, _, e, _⟩ := u
  exact Kt.but b e
theorem Kt.sq {K : PySem.W.Frag} {H H' : Hp} {a : Addr} {xs : List V} (k : Kt H H') (h : SqT K H a xs) : SqT K H' a xs := by
  rcases h with h | h
  · exact .inl (k _ _ h)
  · exact .inr h
mutual
def TrAt (K : PySem.W.Frag) (H : Hp) : Tr → V → Prop
  | .op w as, v => ∃ a, v = .ref a ∧ SqT K H a (.str w :: as.map V.int)
  | .loop k b, v => ∃ a c vs, v = .ref a ∧ SqT K H a [.str "loop", .int k, .ref c] ∧ SqT K H c vs ∧ TrsAt K H b vs
def TrsAt (K : PySem.W.Frag) (H : Hp) : List Tr → List V → Prop
  | [], vs => vs = []
  | t :: r, vs => ∃ v us, vs = v :: us ∧ TrAt K H t v ∧ TrsAt K H r us
end
def BodyAt (K : PySem.W.Frag) (H : Hp) (b : List Tr) (v : V) : Prop := ∃ c vs, v = .ref c ∧ SqT K H c vs ∧ TrsAt K H b vs
mutual
theorem TrAt.kt {K : PySem.W.Frag} {H H' : Hp} (k : Kt H H') : ∀ (t : Tr) (v : V), TrAt K H t v → TrAt K H' t v
  | .op w as, v, h => by
    rw [TrAt] at h ⊢
    obtain ⟨a, e, s⟩ := h
    exact ⟨a, e, k.sq s⟩
  | .loop n b, v, h => by
    rw [TrAt] at h ⊢
    obtain ⟨a, c, vs, e, s, s2, r⟩ := h
    exact ⟨a, c, vs, e, k.sq s, k.sq s2, TrsAt.kt k b vs r⟩
theorem TrsAt.kt {K : PySem.W.Frag} {H H' : Hp} (k : Kt H H') : ∀ (b : List Tr) (vs : List V), TrsAt K H b vs → TrsAt K H' b vs
  | [], vs, h => by
    rw [TrsAt] at h ⊢
    exact h
  | t :: r, vs, h => by
    rw [TrsAt] at h ⊢
    obtain ⟨v, us, e, a, b⟩ := h
    exact ⟨v, us, e, TrAt.kt k t v a, TrsAt.kt k r us b⟩
end
theorem BodyAt.kt {K : PySem.W.Frag} {H H' : Hp} {b : List Tr} {v : V} (k : Kt H H') (h : BodyAt K H b v) : BodyAt K H' b v := by
  obtain ⟨c, vs, e, s, r⟩ := h
  exact ⟨c, vs, e, k.sq s, TrsAt.kt k b vs r⟩
theorem TrsAt.length {K : PySem.W.Frag} {H : Hp} : ∀ {b : List Tr} {vs : List V}, TrsAt K H b vs → vs.length = b.length
  | [], vs, h => by
    rw [TrsAt] at h
    rw [h]
    rfl
  | t :: r, vs, h => by
    rw [TrsAt] at h
    obtain ⟨v, us, rfl, _, k⟩ := h
    rw [List.length_cons, List.length_cons, TrsAt.length k]
theorem TrsAt.get {K : PySem.W.Frag} {H : Hp} : ∀ {b : List Tr} {vs : List V} {i : Nat} {v : V}, TrsAt K H b vs → vs[i]? = some v → ∃ t, b[i]? = some t ∧ TrAt K H t v
  | [], vs, i, v, h, e => by
    rw [TrsAt] at h
    rw [h] at e
    simp at e
  | t :: r, vs, 0, v, h, e => by
    rw [TrsAt] at h
    obtain ⟨v', us, rfl, a, _⟩ := h
    cases e
    exact ⟨t, rfl, a⟩
  | t :: r, vs, i + 1, v, h, e => by
    rw [TrsAt] at h
    obtain ⟨v', us, rfl, _, k⟩ := h
    exact TrsAt.get (i := i) k e
theorem TrsAt.append {K : PySem.W.Frag} {H : Hp} : ∀ {b c : List Tr} {vs us : List V}, TrsAt K H b vs → TrsAt K H c us → TrsAt K H (b ++ c) (vs ++ us)
  | [], c, vs, us, h, k => by
    rw [TrsAt] at h
    rw [h]
    exact k
  | t :: r, c, vs, us, h, k => by
    rw [TrsAt] at h
    obtain ⟨v, ws, rfl, a, l⟩ := h
    show TrsAt K H (t :: (r ++ c)) (v :: (ws ++ us))
    rw [TrsAt]
    exact ⟨v, _, rfl, a, TrsAt.append l k⟩
theorem TrsAt.one {K : PySem.W.Frag} {H : Hp} {t : Tr} {v : V} (h : TrAt K H t v) : TrsAt K H [t] [v] := by
  rw [TrsAt]
  exact ⟨v, [], rfl, h, by rw [TrsAt]⟩
theorem TrsAt.nil {K : PySem.W.Frag} {H : Hp} : TrsAt K H [] [] := by rw [TrsAt]
/-! ### promises about trees -/
def spTI (K : PySem.W.Frag) (ok : List Tr → Prop) (f : List Tr → Int) : Sp := fun vs H Q _ => ∃ v b, vs = [v] ∧ BodyAt K H b v ∧ ok b ∧ ∀ H', Same H H' → Q (.int (f b)) H'
def spII (K : PySem.W.Frag) (ok : Tr → Prop) (f : Tr → Int) : Sp := fun vs H Q _ => ∃ v t, vs = [v] ∧ TrAt K H t v ∧ ok t ∧ ∀ H', Same H H' → Q (.int (f t)) H'
def spWI (K : PySem.W.Frag) (ok : List Tr → Prop) : Sp := fun vs H Q _ => ∃ v b w, vs = [v, .str w] ∧ BodyAt K H b v ∧ ok b ∧ w ≠ "loop" ∧ ∀ H', Same H H' → Q (.int (cnts w b)) H'
theorem same_upd {H H' : Hp} {D : Addr} {o : HO} (s : Same H H') (n : H D = none) : Same H (upd H' D o) := fun b x e => by
  rw [upd_ne (ne_of_none e n)]
  exact s _ _ e
end Lj
namespace Lj
mutual
theorem Tr.dep_nn : ∀ t : Tr, 0 ≤ t.dep
  | .op _ _ => by rw [Tr.dep]; decide
  | .loop _ b => by
    rw [Tr.dep]
    have := deps_nn b
    omega
theorem deps_nn : ∀ b : List Tr, 0 ≤ deps b
  | [] => by rw [deps]; decide
  | t :: r => by
    rw [deps]
    have h1 := Tr.dep_nn t
    have h2 := deps_nn r
    split <;> omega
end
end Lj
set_option Elab.async false
set_option linter.all false
set_option maxRecDepth 100000
namespace Lj
open PySem PySem.Spec PyProof.Rows L2
def prs : List Int := [2, 2, 3, 3, 5, 7, 7, 11, 13, 97, 251, 9973, 10007]
theorem prs_bd {q : Int} (h : q ∈ prs) : 2 ≤ q ∧ q ≤ 10007 := by
  have z : (prs.all fun q => decide (2 ≤ q) && decide (q ≤ 10007)) = true := by decide
  have k := List.all_eq_true.mp z q h
  rw [Bool.and_eq_true] at k
  exact ⟨of_decide_eq_true k.1, of_decide_eq_true k.2⟩
def spPrimeU : Sp := fun vs H Q _ => ∃ p : Addr, vs = [.ref p] ∧ Urn H p ∧ ∀ (q : Int) H', q ∈ prs → Urn H' p → But p H H' → Q (.int q) H'
theorem wide_big {n : Int} (h : n ≤ 10 ^ 40) (h0 : 0 ≤ n) : n.natAbs < wide := by
  have z : (10 ^ 40 : Nat) < wide := by decide +kernel
  omega
/-! ### list.count of texts -/
def eqs (z : Str) (v : Value) : Bool := match v with
  | .str y _ => y == z
  | _ => false
theorem count_strs {z : Str} : ∀ {us : List Value} {ss : List Str}, Vals (ss.map V.str) us → us.countP (eqs z) = ss.count z
  | _, [], .nil => rfl
  | _, s :: ss, .cons ⟨t, rfl⟩ r => by
    rw [List.countP_cons, count_strs r, List.count_cons]
    rfl
theorem mem_strs : ∀ {us : List Value} {ss : List Str} {u : Value}, Vals (ss.map V.str) us → u ∈ us → ∃ s t, u = .str s t
  | _, [], _, .nil, m => by cases m
  | _, s :: ss, u, .cons ⟨t, rfl⟩ r, m => by
    rcases List.mem_cons.mp m with rfl | m
    · exact ⟨s, t, rfl⟩
    · exact mem_strs r m
theorem mt_count_str {X : Cx} : MtR X "list.count" (fun x xs H Q => ∃ (p : Addr) (ss : List Str) (z : Str), x = .ref p ∧ xs = [.str z] ∧ SqL X.K H p (ss.map V.str) ∧ Q (.int (ss.count z : Nat)) H) := by
  intro pins s σ H x xs v us Q I rx rxs h
  obtain ⟨p, ss, z, rfl, rfl, sq, q⟩ := h
  cases rx
  obtain ⟨u, rfl, ⟨t, rfl⟩⟩ := rxs.one
  obtain ⟨its, rv, ⟨⟨cls, dd, data, sl⟩, n, ho, hc, hdn, hd⟩, hlen⟩ := I.list sq
  simp only at hc hd
  subst hc hd
  refine call_meets PySem.F.slot_list_count ⟨_, ho, rfl⟩ PySem.F.entry_list_count (PySem.F.args_list_count_2 _ _) (SeqAt.list_countAt p its.toArray n dd sl (.str z t) (eqs z)) ⟨ho, fun y hy => ?_, ?_⟩
  · obtain ⟨a, b, rfl⟩ := mem_strs rv (by simpa using hy)
    exact eqAt_V (y := .str a) (x := .str z) ⟨b, rfl⟩ ⟨t, rfl⟩ rfl rfl
  · refine ⟨.int (ss.count z : Nat), H, I.tok _, ⟨s.toks, ?_⟩, q⟩
    rw [← count_strs rv]
/-! ### instructions as the laws draw them -/
def W7 : List Str := ["set", "copy", "add", "scale", "swap", "read", "write"]
theorem W7_noloop {w : Str} (h : w ∈ W7) : w ≠ "loop" := by
  have z : (W7.all fun w => !(w == ("loop" : Str))) = true := by decide
  have k := List.all_eq_true.mp z w h
  intro e
  subst e
  revert k
  decide
theorem W7_ok {w : Str} (h : w ∈ W7) : PyData.strOk w = true := by
  have z : (W7.all fun w => PyData.strOk w) = true := by decide +kernel
  exact List.all_eq_true.mp z w h
def GoodOp (p n : Int) (w : Str) (as : List Int) : Prop :=
  ((w = "set" ∨ w = "scale") ∧ ∃ x c, as = [x, c] ∧ 0 ≤ x ∧ x < n ∧ 0 ≤ c ∧ c < p) ∨
  ((w = "read" ∨ w = "write") ∧ ∃ x, as = [x] ∧ 0 ≤ x ∧ x < n) ∨
  ((w = "copy" ∨ w = "swap") ∧ ∃ x y, as = [x, y] ∧ 0 ≤ x ∧ x < n ∧ 0 ≤ y ∧ y < n ∧ x ≠ y) ∨
  (w = "add" ∧ ∃ x y c, as = [x, y, c] ∧ 0 ≤ x ∧ x < n ∧ 0 ≤ y ∧ y < n ∧ x ≠ y ∧ 1 ≤ c ∧ c < p)
theorem GoodOp.w7 {p n : Int} {w : Str} {as : List Int} (h : GoodOp p n w as) : w ∈ W7 := by
  rcases h with ⟨rfl | rfl, _⟩ | ⟨rfl | rfl, _⟩ | ⟨rfl | rfl, _⟩ | ⟨rfl, _⟩ <;> decide
mutual
/-- drawn: at most l instructions, loops at most d deep, half as many within; G: of the others, R: of the rounds -/
def Tr.made (G : Str → List Int → Prop) (R : Int → Prop) : Tr → Nat → Nat → Prop
  | .op w as, _, _ => G w as
  | .loop _ _, _, 0 => False
  | .loop k b, l, d + 1 => R k ∧ b.length ≤ l / 2 ∧ mades G R b (l / 2) d
def mades (G : Str → List Int → Prop) (R : Int → Prop) : List Tr → Nat → Nat → Prop
  | [], _, _ => True
  | t :: r, l, d => t.made G R l d ∧ mades G R r l d
end
theorem mades_append {G : Str → List Int → Prop} {R : Int → Prop} : ∀ {b c : List Tr} {l d : Nat}, mades G R b l d → mades G R c l d → mades G R (b ++ c) l d
  | [], _, _, _, _, k => k
  | t :: r, c, l, d, h, k => by
    rw [mades] at h
    show mades G R (t :: (r ++ c)) l d
    rw [mades]
    exact ⟨h.1, mades_append h.2 k⟩
theorem mades_one {G : Str → List Int → Prop} {R : Int → Prop} {t : Tr} {l d : Nat} (h : t.made G R l d) : mades G R [t] l d := by
  rw [mades, mades]
  exact ⟨h, trivial⟩
theorem mades_nil {G : Str → List Int → Prop} {R : Int → Prop} {l d : Nat} : mades G R [] l d := by
  rw [mades]
  trivial
mutual
theorem Tr.made_wf {G : Str → List Int → Prop} {R : Int → Prop} (hG : ∀ w as, G w as → w ∈ W7) (hR : ∀ k, R k → 0 ≤ k ∧ k ≤ 10 ^ 18) : ∀ (t : Tr) (l d : Nat), l ≤ 1000 → t.made G R l d → t.wf d
  | .op w as, l, d, _, h => by
    rw [Tr.made] at h
    rw [Tr.wf]
    exact W7_noloop (hG w as h)
  | .loop k b, l, 0, _, h => by
    rw [Tr.made] at h
    exact h.elim
  | .loop k b, l, d + 1, hl, h => by
    rw [Tr.made] at h
    rw [Tr.wf]
    exact ⟨(hR k h.1).1, (hR k h.1).2, by omega, mades_wf hG hR b (l / 2) d (by omega) h.2.2⟩
theorem mades_wf {G : Str → List Int → Prop} {R : Int → Prop} (hG : ∀ w as, G w as → w ∈ W7) (hR : ∀ k, R k → 0 ≤ k ∧ k ≤ 10 ^ 18) : ∀ (b : List Tr) (l d : Nat), l ≤ 1000 → mades G R b l d → wfs b d
  | [], _, _, _, _ => by rw [wfs]; trivial
  | t :: r, l, d, hl, h => by
    rw [mades] at h
    rw [wfs]
    exact ⟨Tr.made_wf hG hR t l d hl h.1, mades_wf hG hR r l d hl h.2⟩
end
/-- the most steps that such a body executes, loops of at most 3 rounds -/
def most : Nat → Nat → Nat
  | 0, _ => 1
  | d + 1, l => max 1 (3 * ((l / 2) * most d (l / 2)))
mutual
theorem Tr.made_ex {G : Str → List Int → Prop} {R : Int → Prop} (hR : ∀ k, R k → 0 ≤ k ∧ k ≤ 3) : ∀ (t : Tr) (l d : Nat), t.made G R l d → t.ex.length ≤ most d l
  | .op w as, l, 0, h => by rw [Tr.ex, most]; exact Nat.le_refl 1
  | .op w as, l, d + 1, h => by rw [Tr.ex, most]; exact Nat.le_max_left _ _
  | .loop k b, l, 0, h => by
    rw [Tr.made] at h
    exact h.elim
  | .loop k b, l, d + 1, h => by
    rw [Tr.made] at h
    have ih := mades_ex hR b (l / 2) d h.2.2
    have hk := hR k h.1
    rw [Tr.ex, most, List.length_flatten, List.map_replicate, List.sum_replicate_nat]
    refine Nat.le_trans ?_ (Nat.le_max_right _ _)
    have h1 : (exs b).length ≤ l / 2 * most d (l / 2) := Nat.le_trans ih (Nat.mul_le_mul_right _ h.2.1)
    exact Nat.mul_le_mul (by omega) h1
theorem mades_ex {G : Str → List Int → Prop} {R : Int → Prop} (hR : ∀ k, R k → 0 ≤ k ∧ k ≤ 3) : ∀ (b : List Tr) (l d : Nat), mades G R b l d → (exs b).length ≤ b.length * most d l
  | [], _, _, _ => by rw [exs]; exact Nat.zero_le _
  | t :: r, l, d, h => by
    rw [mades] at h
    have h1 := Tr.made_ex hR t l d h.1
    have h2 := mades_ex hR r l d h.2
    rw [exs, List.length_append, List.length_cons, Nat.succ_mul]
    omega
end
/-! ### what is executed: numbers -/
theorem flat_len {α : Type} (n : Nat) (xs : List α) : ((List.replicate n xs).flatten).length = n * xs.length := by
  rw [List.length_flatten, List.map_replicate, List.sum_replicate_nat]
mutual
theorem Tr.ex_len : ∀ (t : Tr) (d : Nat), t.wf d → (t.ex.length : Int) = t.len
  | .op w as, _, _ => by rw [Tr.ex, Tr.len]; rfl
  | .loop k b, 0, h => by rw [Tr.wf] at h; exact h.elim
  | .loop k b, d + 1, h => by
    rw [Tr.wf] at h
    have ih := exs_len b d h.2.2.2
    rw [Tr.ex, Tr.len, flat_len, ← ih, Int.natCast_mul]
    congr 1
    omega
theorem exs_len : ∀ (b : List Tr) (d : Nat), wfs b d → ((exs b).length : Int) = lens b
  | [], _, _ => by rw [exs, lens]; rfl
  | t :: r, d, h => by
    rw [wfs] at h
    rw [exs, lens, List.length_append, Int.natCast_add, Tr.ex_len t d h.1, exs_len r d h.2]
end
/-- the word of an instruction -/
def Tr.word : Tr → Str
  | .op w _ => w
  | .loop _ _ => "loop"
theorem count_flat (z : Str) (xs : List Tr) : ∀ n : Nat, (((List.replicate n xs).flatten).map Tr.word).count z = n * (xs.map Tr.word).count z
  | 0 => by simp
  | n + 1 => by rw [List.replicate_succ, List.flatten_cons, List.map_append, List.count_append, count_flat z xs n, Nat.succ_mul, Nat.add_comm]
mutual
theorem Tr.ex_cnt (z : Str) : ∀ (t : Tr) (d : Nat), t.wf d → (((t.ex.map Tr.word).count z : Nat) : Int) = t.cnt z
  | .op w as, _, _ => by
    rw [Tr.ex, Tr.cnt]
    show (([w].count z : Nat) : Int) = _
    rw [List.count_singleton]
    by_cases e : w = z
    · rw [if_pos e, if_pos (beq_iff_eq.mpr e)]
      rfl
    · rw [if_neg e, if_neg (fun h => e (beq_iff_eq.mp h))]
      rfl
  | .loop k b, 0, h => by rw [Tr.wf] at h; exact h.elim
  | .loop k b, d + 1, h => by
    rw [Tr.wf] at h
    have ih := exs_cnt z b d h.2.2.2
    rw [Tr.ex, Tr.cnt, count_flat, ← ih, Int.natCast_mul]
    congr 1
    omega
theorem exs_cnt (z : Str) : ∀ (b : List Tr) (d : Nat), wfs b d → ((((exs b).map Tr.word).count z : Nat) : Int) = cnts z b
  | [], _, _ => by rw [exs, cnts]; rfl
  | t :: r, d, h => by
    rw [wfs] at h
    rw [exs, cnts, List.map_append, List.count_append, Int.natCast_add, Tr.ex_cnt z t d h.1, exs_cnt z r d h.2]
end
/-- all are no loops -/
def Ops (b : List Tr) : Prop := ∀ t ∈ b, ∃ w as, t = .op w as ∧ w ∈ W7
mutual
theorem Tr.ex_ops {G : Str → List Int → Prop} {R : Int → Prop} (hG : ∀ w as, G w as → w ∈ W7) : ∀ (t : Tr) (l d : Nat), t.made G R l d → Ops t.ex
  | .op w as, l, d, h => by
    rw [Tr.made] at h
    rw [Tr.ex]
    intro t m
    exact ⟨w, as, List.mem_singleton.mp m, hG w as h⟩
  | .loop k b, l, 0, h => by rw [Tr.made] at h; exact h.elim
  | .loop k b, l, d + 1, h => by
    rw [Tr.made] at h
    rw [Tr.ex]
    intro t m
    obtain ⟨xs, m1, m2⟩ := List.mem_flatten.mp m
    rw [(List.mem_replicate.mp m1).2] at m2
    exact exs_ops hG b (l / 2) d h.2.2 t m2
theorem exs_ops {G : Str → List Int → Prop} {R : Int → Prop} (hG : ∀ w as, G w as → w ∈ W7) : ∀ (b : List Tr) (l d : Nat), mades G R b l d → Ops (exs b)
  | [], _, _, _ => by rw [exs]; intro t m; cases m
  | t :: r, l, d, h => by
    rw [mades] at h
    rw [exs]
    intro u m
    rcases List.mem_append.mp m with m | m
    · exact Tr.ex_ops hG t l d h.1 u m
    · exact exs_ops hG r l d h.2 u m
end
/-! ### data of instructions -/
def Tr.dat : Tr → PyData
  | .op w as => .tuple (.str w :: as.map .int)
  | .loop _ _ => .none
theorem dp_ints {K : PySem.W.Frag} {H : Hp} : ∀ as : List Int, DpAll K H (as.map V.int) (as.map PyData.int)
  | [] => .nil
  | a :: r => .cons (.int a) (dp_ints r)
theorem lay_ints : ∀ as : List Int, PyData.canLayAll0 (as.map PyData.int) = true
  | [] => by rw [List.map_nil, PyData.canLayAll0]
  | a :: r => by rw [List.map_cons, PyData.canLayAll0, PyData.canLay0, lay_ints r]; rfl
theorem depth_ints : ∀ as : List Int, PyData.depthAll (as.map PyData.int) = 0
  | [] => by rw [List.map_nil, PyData.depthAll]
  | a :: r => by rw [List.map_cons, PyData.depthAll, PyData.depth, depth_ints r]; rfl
theorem Ops.dp {K : PySem.W.Frag} {H : Hp} : ∀ {b : List Tr} {vs : List V}, Ops b → TrsAt K H b vs → DpAll K H vs (b.map Tr.dat)
  | [], vs, _, h => by
    rw [TrsAt] at h
    rw [h]
    exact .nil
  | t :: r, vs, o, h => by
    rw [TrsAt] at h
    obtain ⟨v, us, rfl, a, k⟩ := h
    obtain ⟨w, as, rfl, _⟩ := o t List.mem_cons_self
    rw [TrAt] at a
    obtain ⟨x, rfl, sq⟩ := a
    exact .cons (.tup sq (.cons (.str w) (dp_ints as))) (Ops.dp (fun u m => o u (List.mem_cons_of_mem _ m)) k)
theorem Ops.lay : ∀ {b : List Tr}, Ops b → PyData.canLayAll0 (b.map Tr.dat) = true
  | [], _ => by rw [List.map_nil, PyData.canLayAll0]
  | t :: r, o => by
    obtain ⟨w, as, rfl, hw⟩ := o t List.mem_cons_self
    rw [List.map_cons, PyData.canLayAll0, Ops.lay (fun u m => o u (List.mem_cons_of_mem _ m)), Tr.dat, PyData.canLay0, PyData.canLayAll0, PyData.canLay0, W7_ok hw, lay_ints]
    rfl
theorem Ops.deep : ∀ {b : List Tr}, Ops b → PyData.depthAll (b.map Tr.dat) ≤ 1
  | [], _ => by rw [List.map_nil, PyData.depthAll]; exact Nat.zero_le _
  | t :: r, o => by
    obtain ⟨w, as, rfl, hw⟩ := o t List.mem_cons_self
    have ih := Ops.deep (b := r) (fun u m => o u (List.mem_cons_of_mem _ m))
    rw [List.map_cons, PyData.depthAll, Tr.dat, PyData.depth, PyData.depthAll, PyData.depth, depth_ints]
    omega
theorem Ops.shaped {b : List Tr} (o : Ops b) : SeqAt.shaped (.list (b.map Tr.dat)) = true := by
  unfold SeqAt.shaped
  rw [PyData.canLay0, o.lay, PyData.depth, decide_eq_true (by have := o.deep; omega)]
  rfl
theorem shaped_nil : SeqAt.shaped (.list []) = true := by decide
theorem eqv_nil : ∀ b : List PyData, PyData.eqv (.list b) (.list []) = b.isEmpty
  | [] => by rw [PyData.eqv, PyData.eqvAll]; rfl
  | a :: r => by rw [PyData.eqv, PyData.eqvAll]; rfl
theorem inV2 {w a b : Str} : inV (.str w) [.str a, .str b] = true ↔ (w = a ∨ w = b) := by
  show (a == w || (b == w || false)) = true ↔ _
  rw [Bool.or_false, Bool.or_eq_true, beq_iff_eq, beq_iff_eq]
  constructor
  · rintro (h | h)
    · exact .inl h.symm
    · exact .inr h.symm
  · rintro (h | h)
    · exact .inl h.symm
    · exact .inr h.symm
/-! ### promises of the law's own defs -/
def W9 : List Str := ["set", "copy", "copy", "add", "add", "scale", "swap", "read", "write"]
theorem W9_in : ∀ x ∈ W9, x ∈ W7 := by
  have z : (W9.all fun x => W7.contains x) = true := by decide
  intro x m
  exact List.contains_iff_mem.mp (List.all_eq_true.mp z x m)
def spWords : Sp := fun vs H Q _ => vs = [] ∧ ∀ p, H p = none → Q (.ref p) (upd H p (.lst (W9.map V.str)))
def spItem (K : PySem.W.Frag) : Sp := fun vs H Q _ => ∃ (u ws : Addr) (p n : Int) (wl : List Str), vs = [.ref u, .int p, .int n, .ref ws] ∧ Urn H u ∧ 2 ≤ p ∧ p ≤ 10007 ∧ 1 ≤ n ∧ n ≤ 8 ∧ ws ≠ u ∧ SqL K H ws (wl.map V.str) ∧ wl ≠ [] ∧ wl.length ≤ 1000 ∧ (∀ x ∈ wl, x ∈ W7) ∧
  ∀ w as v H', GoodOp p n w as → (w ∈ wl ∨ w = "set") → TrAt K H' (.op w as) v → Urn H' u → But u H H' → Q v H'
def spBody (K : PySem.W.Frag) (d : Nat) : Sp := fun vs H Q _ => ∃ (u ws rs : Addr) (p n : Int) (wl : List Str) (rl : List Int) (l e : Nat), vs = [.ref u, .int p, .int n, .ref ws, .int (l : Int), .int (e : Int), .ref rs] ∧ Urn H u ∧ 2 ≤ p ∧ p ≤ 10007 ∧ 1 ≤ n ∧ n ≤ 8 ∧ ws ≠ u ∧ SqL K H ws (wl.map V.str) ∧ wl ≠ [] ∧ wl.length ≤ 1000 ∧ (∀ x ∈ wl, x ∈ W7) ∧
  rs ≠ u ∧ SqL K H rs (rl.map V.int) ∧ rl ≠ [] ∧ rl.length ≤ 1000 ∧ l ≤ 1000 ∧ e < d ∧
  ∀ b v H', b.length ≤ l → mades (fun w as => GoodOp p n w as ∧ (w ∈ wl ∨ w = "set")) (fun k => k ∈ rl) b l e → BodyAt K H' b v → Urn H' u → But u H H' → Q v H'
mutual
/-- every body within executes a bounded number of steps -/
def Tr.fine : Tr → Prop
  | .op w _ => w ∈ W7
  | .loop _ b => (exs b).length ≤ 100000 ∧ fines b
def fines : List Tr → Prop
  | [] => True
  | t :: r => t.fine ∧ fines r
end
theorem fines_get : ∀ {b : List Tr} {i : Nat} {t : Tr}, fines b → b[i]? = some t → t.fine
  | [], _, _, _, e => by simp at e
  | t :: r, 0, u, h, e => by
    cases e
    rw [fines] at h
    exact h.1
  | t :: r, i + 1, u, h, e => by
    rw [fines] at h
    exact fines_get (i := i) h.2 e
mutual
theorem Tr.fine_ops : ∀ t : Tr, t.fine → Ops t.ex
  | .op w as, h => by
    rw [Tr.fine] at h
    rw [Tr.ex]
    intro t m
    exact ⟨w, as, List.mem_singleton.mp m, h⟩
  | .loop k b, h => by
    rw [Tr.fine] at h
    rw [Tr.ex]
    intro t m
    obtain ⟨xs, m1, m2⟩ := List.mem_flatten.mp m
    rw [(List.mem_replicate.mp m1).2] at m2
    exact fines_ops b h.2 t m2
theorem fines_ops : ∀ b : List Tr, fines b → Ops (exs b)
  | [], _ => by rw [exs]; intro t m; cases m
  | t :: r, h => by
    rw [fines] at h
    rw [exs]
    intro u m
    rcases List.mem_append.mp m with m | m
    · exact Tr.fine_ops t h.1 u m
    · exact fines_ops r h.2 u m
end
theorem most0 : ∀ d, most d 0 = 1
  | 0 => rfl
  | d + 1 => by
    rw [most]
    show max 1 (3 * (0 * _)) = 1
    rw [Nat.zero_mul]
    rfl
theorem most_pos : ∀ d l, 1 ≤ most d l
  | 0, _ => Nat.le_refl 1
  | d + 1, l => by rw [most]; exact Nat.le_max_left _ _
mutual
theorem Tr.made_fine {G : Str → List Int → Prop} {R : Int → Prop} (hG : ∀ w as, G w as → w ∈ W7) (hR : ∀ k, R k → 0 ≤ k ∧ k ≤ 3) : ∀ (t : Tr) (l d : Nat), max 1 l * most d l ≤ 100000 → t.made G R l d → t.fine
  | .op w as, l, d, _, h => by
    rw [Tr.made] at h
    rw [Tr.fine]
    exact hG w as h
  | .loop k b, l, 0, _, h => by rw [Tr.made] at h; exact h.elim
  | .loop k b, l, d + 1, hb, h => by
    rw [Tr.made] at h
    rw [Tr.fine]
    have h1 : 3 * (l / 2 * most d (l / 2)) ≤ 100000 := by
      have h0 : most (d + 1) l ≤ 100000 := Nat.le_trans (Nat.le_mul_of_pos_left _ (by omega)) hb
      rw [most] at h0
      exact Nat.le_trans (Nat.le_max_right _ _) h0
    have h2 := mades_ex hR b (l / 2) d h.2.2
    have h3 : b.length * most d (l / 2) ≤ l / 2 * most d (l / 2) := Nat.mul_le_mul_right _ h.2.1
    refine ⟨by omega, mades_fine hG hR b (l / 2) d ?_ h.2.2⟩
    by_cases z : l / 2 = 0
    · rw [z, most0]
      decide
    · rw [show max 1 (l / 2) = l / 2 by omega]
      omega
theorem mades_fine {G : Str → List Int → Prop} {R : Int → Prop} (hG : ∀ w as, G w as → w ∈ W7) (hR : ∀ k, R k → 0 ≤ k ∧ k ≤ 3) : ∀ (b : List Tr) (l d : Nat), max 1 l * most d l ≤ 100000 → mades G R b l d → fines b
  | [], _, _, _, _ => by rw [fines]; trivial
  | t :: r, l, d, hl, h => by
    rw [mades] at h
    rw [fines]
    exact ⟨Tr.made_fine hG hR t l d hl h.1, mades_fine hG hR r l d hl h.2⟩
end
theorem mades_big {G : Str → List Int → Prop} {R : Int → Prop} (hR : ∀ k, R k → 0 ≤ k ∧ k ≤ 3) {b : List Tr} {l d : Nat} (hl : b.length ≤ l) (hm : max 1 l * most d l ≤ 100000) (h : mades G R b l d) : (exs b).length ≤ 100000 := by
  have h1 := mades_ex hR b l d h
  have h2 : b.length * most d l ≤ max 1 l * most d l := Nat.mul_le_mul_right _ (by omega)
  omega
theorem most84 : max 1 8 * most 4 8 ≤ 100000 := by decide
def spExec (K : PySem.W.Frag) (d : Nat) : Sp := fun vs H Q _ => ∃ v b, vs = [v] ∧ BodyAt K H b v ∧ okB d b ∧ fines b ∧ (exs b).length ≤ 100000 ∧
  ∀ H' l us, Same H H' → H l = none → H' l = some (.lst us) → TrsAt K H' (exs b) us → Q (.ref l) H'
end Lj
set_option Elab.async false
set_option linter.all false
set_option maxRecDepth 100000
namespace Lj
open PySem PySem.Spec PyProof.Rows L2
theorem iteNN {c A B : Prop} [Decidable c] (h : ¬ c) (a : A) : if (!decide c) = true then A else B := by
  rw [decide_eq_false h]
  exact a
/-! ### repr of lists of numbers -/
/-- a number, None, a truth value, shown in a few signs -/
def Leaf (d : PyData) : Prop := d.showable = true ∧ d.hasDict = false ∧ d.depth = 0 ∧ d.shown.length ≤ 1921
theorem leaf_int {i : Int} (h : i.natAbs.log2 < 1920) : Leaf (.int i) := ⟨by rw [PyData.showable]; exact decide_eq_true h, by rw [PyData.hasDict], by rw [PyData.depth], by rw [PyData.shown]; exact int_text_len_1921 h⟩
theorem leaf_none : Leaf .none := ⟨by rw [PyData.showable], by rw [PyData.hasDict], by rw [PyData.depth], by rw [PyData.shown]; decide⟩
theorem leaf_all : ∀ {ds : List PyData}, (∀ d ∈ ds, Leaf d) → PyData.showableAll ds = true ∧ PyData.hasDictAll ds = false ∧ PyData.depthAll ds = 0 ∧ ((PyData.shownAll ds).map (·.length)).sum ≤ 1921 * ds.length ∧ (PyData.shownAll ds).length = ds.length
  | [], _ => ⟨by rw [PyData.showableAll], by rw [PyData.hasDictAll], by rw [PyData.depthAll], by rw [PyData.shownAll]; exact Nat.zero_le _, by rw [PyData.shownAll]; rfl⟩
  | d :: r, h => by
    obtain ⟨a1, a2, a3, a4⟩ := h d List.mem_cons_self
    obtain ⟨b1, b2, b3, b4, b5⟩ := leaf_all (ds := r) fun x m => h x (List.mem_cons_of_mem _ m)
    refine ⟨by rw [PyData.showableAll, a1, b1]; rfl, by rw [PyData.hasDictAll, a2, b2]; rfl, by rw [PyData.depthAll, a3, b3]; rfl, ?_, by rw [PyData.shownAll, List.length_cons, b5, List.length_cons]⟩
    rw [PyData.shownAll, List.map_cons, List.sum_cons, List.length_cons]
    omega
theorem leaf_list {ds : List PyData} (h : ∀ d ∈ ds, Leaf d) (n : ds.length ≤ 8000) : (PyData.list ds).showable = true ∧ (PyData.list ds).hasDict = false ∧ (PyData.list ds).depth ≤ 64 ∧ (PyData.list ds).shown.length ≤ sizeLine := by
  obtain ⟨b1, b2, b3, b4, b5⟩ := leaf_all h
  refine ⟨by rw [PyData.showable]; exact b1, by rw [PyData.hasDict]; exact b2, by rw [PyData.depth, b3]; decide, ?_⟩
  rw [PyData.shown, sizeLine_eq]
  have := PySem.listText_len_le (PyData.shownAll ds)
  omega
theorem dp_int_list {K : PySem.W.Frag} {H : Hp} {a : Addr} {ns : List Int} (h : SqL K H a (ns.map V.int)) : Dp K H (.ref a) (.list (ns.map PyData.int)) := .lst h (dp_ints ns)
theorem log_of {i : Int} {k : Nat} (h : i.natAbs < 2 ^ k) (k0 : 0 < k) (k1 : k ≤ 1920) : i.natAbs.log2 < 1920 := Nat.lt_of_lt_of_le (PySem.Flt.log2_lt_of k0 h) k1
theorem leaf_ints {ns : List Int} (h : ∀ n ∈ ns, n.natAbs < 2 ^ 1000) : ∀ d ∈ ns.map PyData.int, Leaf d := by
  intro d m
  obtain ⟨n, hn, rfl⟩ := List.mem_map.mp m
  exact leaf_int (log_of (h n hn) (by decide) (by decide))
/-! ### bounds -/
def top : Nat → Int
  | 0 => 1
  | d + 1 => 10 ^ 18 * (1000 * top d)
theorem top_pos : ∀ d, 1 ≤ top d
  | 0 => by decide
  | d + 1 => by
    have := top_pos d
    rw [top]
    omega
mutual
theorem Tr.len_bd : ∀ (t : Tr) (d : Nat), t.wf d → 0 ≤ t.len ∧ t.len ≤ top d
  | .op w as, d, _ => by
    rw [Tr.len]
    exact ⟨by decide, top_pos d⟩
  | .loop k b, 0, h => by rw [Tr.wf] at h; exact h.elim
  | .loop k b, d + 1, h => by
    rw [Tr.wf] at h
    obtain ⟨i0, i1⟩ := lens_bd b d h.2.2.2
    have tp := top_pos d
    have i2 : lens b ≤ 1000 * top d := Int.le_trans i1 (Int.mul_le_mul_of_nonneg_right (by omega) (by omega))
    rw [Tr.len, top]
    exact ⟨Int.mul_nonneg h.1 i0, Int.mul_le_mul h.2.1 i2 i0 (by decide)⟩
theorem lens_bd : ∀ (b : List Tr) (d : Nat), wfs b d → 0 ≤ lens b ∧ lens b ≤ (b.length : Int) * top d
  | [], d, _ => by rw [lens]; exact ⟨by decide, by simp⟩
  | t :: r, d, h => by
    rw [wfs] at h
    obtain ⟨a0, a1⟩ := Tr.len_bd t d h.1
    obtain ⟨b0, b1⟩ := lens_bd r d h.2
    rw [lens, List.length_cons]
    refine ⟨by omega, ?_⟩
    rw [show ((r.length + 1 : Nat) : Int) = (r.length : Int) + 1 from rfl, Int.add_mul, Int.one_mul]
    omega
end
mutual
theorem Tr.cnt_bd (z : Str) : ∀ (t : Tr) (d : Nat), t.wf d → 0 ≤ t.cnt z ∧ t.cnt z ≤ t.len
  | .op w as, d, _ => by
    rw [Tr.len, Tr.cnt]
    split <;> exact ⟨by decide, by decide⟩
  | .loop k b, 0, h => by rw [Tr.wf] at h; exact h.elim
  | .loop k b, d + 1, h => by
    rw [Tr.wf] at h
    obtain ⟨i0, i1⟩ := cnts_bd z b d h.2.2.2
    rw [Tr.len, Tr.cnt]
    exact ⟨Int.mul_nonneg h.1 i0, Int.mul_le_mul_of_nonneg_left i1 h.1⟩
theorem cnts_bd (z : Str) : ∀ (b : List Tr) (d : Nat), wfs b d → 0 ≤ cnts z b ∧ cnts z b ≤ lens b
  | [], d, _ => by rw [lens, cnts]; exact ⟨by decide, by decide⟩
  | t :: r, d, h => by
    rw [wfs] at h
    obtain ⟨a0, a1⟩ := Tr.cnt_bd z t d h.1
    obtain ⟨b0, b1⟩ := cnts_bd z r d h.2
    rw [lens, cnts]
    omega
end
mutual
theorem Tr.inn_bd : ∀ (t : Tr) (d : Nat), t.wf d → 0 ≤ t.inn ∧ t.inn ≤ top d
  | .op w as, d, _ => by
    rw [Tr.inn]
    have := top_pos d
    omega
  | .loop k b, 0, h => by rw [Tr.wf] at h; exact h.elim
  | .loop k b, d + 1, h => by
    rw [Tr.wf] at h
    obtain ⟨i0, i1⟩ := inns_bd b d h.2.2.2
    have tp := top_pos d
    have i2 : inns b ≤ 1000 * top d := Int.le_trans i1 (Int.mul_le_mul_of_nonneg_right (by omega) (by omega))
    rw [Tr.inn, top]
    omega
theorem inns_bd : ∀ (b : List Tr) (d : Nat), wfs b d → 0 ≤ inns b ∧ inns b ≤ (b.length : Int) * top d
  | [], d, _ => by rw [inns]; exact ⟨by decide, by simp⟩
  | t :: r, d, h => by
    rw [wfs] at h
    obtain ⟨a0, a1⟩ := Tr.inn_bd t d h.1
    obtain ⟨b0, b1⟩ := inns_bd r d h.2
    rw [inns, List.length_cons]
    refine ⟨by omega, ?_⟩
    rw [show ((r.length + 1 : Nat) : Int) = (r.length : Int) + 1 from rfl, Int.add_mul, Int.one_mul]
    omega
end
mutual
theorem Tr.dep_bd : ∀ (t : Tr) (d : Nat), t.wf d → t.dep ≤ d
  | .op w as, d, _ => by rw [Tr.dep]; omega
  | .loop k b, 0, h => by rw [Tr.wf] at h; exact h.elim
  | .loop k b, d + 1, h => by
    rw [Tr.wf] at h
    have := deps_bd b d h.2.2.2
    rw [Tr.dep]
    omega
theorem deps_bd : ∀ (b : List Tr) (d : Nat), wfs b d → deps b ≤ d
  | [], d, _ => by rw [deps]; omega
  | t :: r, d, h => by
    rw [wfs] at h
    have h1 := Tr.dep_bd t d h.1
    have h2 := deps_bd r d h.2
    rw [deps]
    split <;> omega
end
theorem lens_log {b : List Tr} {d : Nat} (h : okB (d + 1) b) (hd : d ≤ 6) : (lens b).natAbs < 2 ^ 1000 := by
  obtain ⟨h0, h1⟩ := lens_bd b d h.1
  have tp := top_pos d
  have h2 : lens b ≤ 1000 * top d := Int.le_trans h1 (Int.mul_le_mul_of_nonneg_right (by have := h.2; omega) (by omega))
  have h3 : 1000 * top d < 2 ^ 1000 := by
    have : d = 0 ∨ d = 1 ∨ d = 2 ∨ d = 3 ∨ d = 4 ∨ d = 5 ∨ d = 6 := by omega
    rcases this with rfl | rfl | rfl | rfl | rfl | rfl | rfl <;> decide +kernel
  omega
/-! ### once, and with great rounds -/
mutual
def Tr.once : Tr → Tr
  | .op w as => .op w as
  | .loop _ b => .loop 1 (onces b)
def onces : List Tr → List Tr
  | [] => []
  | t :: r => t.once :: onces r
end
theorem onces_map : ∀ b : List Tr, onces b = b.map Tr.once
  | [] => by rw [onces]; rfl
  | t :: r => by rw [onces, onces_map r]; rfl
mutual
theorem Tr.made_once {G : Str → List Int → Prop} {R : Int → Prop} : ∀ (t : Tr) (l d : Nat), t.made G R l d → t.once.made G (fun k => k = 1) l d
  | .op w as, l, d, h => by
    rw [Tr.made] at h
    rw [Tr.once, Tr.made]
    exact h
  | .loop k b, l, 0, h => by rw [Tr.made] at h; exact h.elim
  | .loop k b, l, d + 1, h => by
    rw [Tr.made] at h
    rw [Tr.once, Tr.made]
    exact ⟨rfl, by rw [onces_map, List.length_map]; exact h.2.1, mades_once b (l / 2) d h.2.2⟩
theorem mades_once {G : Str → List Int → Prop} {R : Int → Prop} : ∀ (b : List Tr) (l d : Nat), mades G R b l d → mades G (fun k => k = 1) (onces b) l d
  | [], l, d, _ => by rw [onces]; exact mades_nil
  | t :: r, l, d, h => by
    rw [mades] at h
    rw [onces, mades]
    exact ⟨Tr.made_once t l d h.1, mades_once r l d h.2⟩
end
/-- no step of the word z, were each loop executed once -/
def NoW (z : Str) (b : List Tr) : Prop := z ∉ (exs (onces b)).map Tr.word
mutual
theorem Tr.noW (z : Str) : ∀ t : Tr, z ∉ (t.once.ex).map Tr.word → t.cnt z = 0
  | .op w as, h => by
    rw [Tr.once, Tr.ex] at h
    rw [Tr.cnt, if_neg]
    intro e
    exact h (by subst e; exact List.mem_singleton.mpr rfl)
  | .loop k b, h => by
    rw [Tr.once, Tr.ex] at h
    rw [Tr.cnt, noWs z b (by
      intro m
      refine h ?_
      show z ∈ (List.flatten [exs (onces b)]).map Tr.word
      rw [List.flatten_cons, List.flatten_nil, List.append_nil]
      exact m), Int.mul_zero]
theorem noWs (z : Str) : ∀ b : List Tr, NoW z b → cnts z b = 0
  | [], _ => by rw [cnts]
  | t :: r, h => by
    unfold NoW at h
    rw [onces, exs, List.map_append, List.mem_append] at h
    rw [cnts, Tr.noW z t (fun m => h (.inl m)), noWs z r (fun m => h (.inr m))]
    rfl
end
mutual
/-- the same but for rounds, and these only where nothing is read or written -/
def Tr.gr : Tr → Tr → Prop
  | .op w as, t => t = .op w as
  | .loop k b, t => ∃ k' b', t = .loop k' b' ∧ 0 ≤ k' ∧ k' ≤ 10 ^ 18 ∧ grs b b' ∧ (k' = k ∨ (NoW "read" b' ∧ NoW "write" b'))
def grs : List Tr → List Tr → Prop
  | [], g => g = []
  | t :: r, g => ∃ t' r', g = t' :: r' ∧ t.gr t' ∧ grs r r'
end
theorem grs_snoc : ∀ {b g : List Tr} {t t' : Tr}, grs b g → t.gr t' → grs (b ++ [t]) (g ++ [t'])
  | [], g, t, t', h, k => by
    rw [grs] at h
    rw [h]
    show grs [t] [t']
    rw [grs]
    exact ⟨t', [], rfl, k, by rw [grs]⟩
  | a :: r, g, t, t', h, k => by
    rw [grs] at h
    obtain ⟨a', r', rfl, h1, h2⟩ := h
    show grs (a :: (r ++ [t])) (a' :: (r' ++ [t']))
    rw [grs]
    exact ⟨a', _, rfl, h1, grs_snoc h2 k⟩
mutual
theorem Tr.gr_all : ∀ (t t' : Tr), t.gr t' → t'.once = t.once ∧ t'.inn = t.inn ∧ t'.dep = t.dep ∧ (∀ d, t.wf d → t'.wf d) ∧ (∀ G R l d, t.made G R l d → t'.made G (fun k => R k ∨ (0 ≤ k ∧ k ≤ 10 ^ 18)) l d) ∧ ((t.cnt "read" = t'.cnt "read") ∧ (t.cnt "write" = t'.cnt "write"))
  | .op w as, t', h => by
    rw [Tr.gr] at h
    subst h
    refine ⟨rfl, rfl, rfl, fun _ h => h, fun G R l d h => ?_, rfl, rfl⟩
    rw [Tr.made] at h ⊢
    exact h
  | .loop k b, t', h => by
    rw [Tr.gr] at h
    obtain ⟨k', b', rfl, k0, k1, hg, hk⟩ := h
    obtain ⟨e1, e2, e3, e4, e5, e6, e7⟩ := grs_all b b' hg
    refine ⟨by rw [Tr.once, Tr.once, e1], by rw [Tr.inn, Tr.inn, e2, e7.1], by rw [Tr.dep, Tr.dep, e3], fun d h => ?_, fun G R l d h => ?_, ?_⟩
    · cases d with
      | zero => rw [Tr.wf] at h; exact h.elim
      | succ d =>
        rw [Tr.wf] at h ⊢
        exact ⟨k0, k1, by rw [e7.1]; exact h.2.2.1, e4 d h.2.2.2⟩
    · cases d with
      | zero => rw [Tr.made] at h; exact h.elim
      | succ d =>
        rw [Tr.made] at h ⊢
        exact ⟨.inr ⟨k0, k1⟩, by rw [e7.1]; exact h.2.1, e5 G R _ _ h.2.2⟩
    · rw [Tr.cnt, Tr.cnt, Tr.cnt, Tr.cnt]
      rcases hk with rfl | ⟨n1, n2⟩
      · rw [e6.1, e6.2]
        exact ⟨rfl, rfl⟩
      · rw [e6.1, e6.2, noWs _ b' n1, noWs _ b' n2, Int.mul_zero, Int.mul_zero]
        exact ⟨rfl, rfl⟩
theorem grs_all : ∀ (b g : List Tr), grs b g → onces g = onces b ∧ inns g = inns b ∧ deps g = deps b ∧ (∀ d, wfs b d → wfs g d) ∧ (∀ G R l d, mades G R b l d → mades G (fun k => R k ∨ (0 ≤ k ∧ k ≤ 10 ^ 18)) g l d) ∧ ((cnts "read" b = cnts "read" g) ∧ (cnts "write" b = cnts "write" g)) ∧ (g.length = b.length ∧ True)
  | [], g, h => by
    rw [grs] at h
    subst h
    exact ⟨rfl, rfl, rfl, fun _ h => h, fun _ _ _ _ _ => mades_nil, ⟨rfl, rfl⟩, rfl, trivial⟩
  | t :: r, g, h => by
    rw [grs] at h
    obtain ⟨t', r', rfl, h1, h2⟩ := h
    obtain ⟨a1, a2, a3, a4, a5, a6⟩ := Tr.gr_all t t' h1
    obtain ⟨e1, e2, e3, e4, e5, e6, e7⟩ := grs_all r r' h2
    refine ⟨by rw [onces, onces, a1, e1], by rw [inns, inns, a2, e2], by rw [deps, deps, a3, e3], fun d h => ?_, fun G R l d h => ?_, ⟨by rw [cnts, cnts, a6.1, e6.1], by rw [cnts, cnts, a6.2, e6.2]⟩, by rw [List.length_cons, List.length_cons, e7.1], trivial⟩
    · rw [wfs] at h ⊢
      exact ⟨a4 d h.1, e4 d h.2⟩
    · rw [mades] at h ⊢
      exact ⟨a5 G R l d h.1, e5 G R l d h.2⟩
end
theorem shaped_ints (ns : List Int) : SeqAt.shaped (.list (ns.map PyData.int)) = true := by
  unfold SeqAt.shaped
  rw [PyData.canLay0, lay_ints, PyData.depth, depth_ints]
  rfl
theorem same_but {H H1 H2 : Hp} {u : Addr} (s : Same H H1) (n : H u = none) (b : But u H1 H2) : Same H H2 := fun x o e => b x o (ne_of_none e n) (s x o e)
/-- one parameter, given by its name -/
theorem kb1 {K : PySem.W.Frag} {x p : Str} {st : Stmt} {f : Addr} {fd : FuncData} (F : Fun K x x st f fd)
    (h : ∀ (kV doc pm : Value) (an : Option Addr) (cdv ct u : Value), bindArgs (PySem.W.fnOf x x (defArgs st) (defBody st) (defScope st) .none kV doc pm an cdv ct) ⟨[], [(p, u)]⟩ = pure [(p, u)]) :
    KBinds K fd [p] [p] (fun us ws => if us.isEmpty then ws else []) (fun us ws => if us.isEmpty then ws else []) := by
  obtain ⟨oc, od, kV, doc, pm, an, cdv, ct, osl, rfl, lk, hcd⟩ := F.ex
  refine ⟨fun s us ws _ hl => ?_, fun {vs us zs ws} r rz => ?_⟩
  · cases us with
    | cons u r =>
      rw [show (u :: r).isEmpty = false from rfl, if_neg Bool.false_ne_true] at hl
      cases hl
    | nil =>
      match ws, hl with
      | [_], _ => exact .of_eq (h ..)
  · cases r with
    | nil => exact rz
    | cons _ _ => exact .nil
end Lj
namespace Lj
mutual
theorem Tr.wf_up : ∀ (t : Tr) (n : Nat), t.wf n → t.wf (n + 1)
  | .op w as, n, h => by
    rw [Tr.wf] at h ⊢
    exact h
  | .loop k b, 0, h => by rw [Tr.wf] at h; exact h.elim
  | .loop k b, n + 1, h => by
    rw [Tr.wf] at h ⊢
    exact ⟨h.1, h.2.1, h.2.2.1, wfs_up' b n h.2.2.2⟩
theorem wfs_up' : ∀ (b : List Tr) (n : Nat), wfs b n → wfs b (n + 1)
  | [], n, _ => by rw [wfs]; trivial
  | t :: r, n, h => by
    rw [wfs] at h ⊢
    exact ⟨Tr.wf_up t n h.1, wfs_up' r n h.2⟩
end
theorem wfs_up {b : List Tr} {n : Nat} (h : wfs b n) : wfs b (n + 1) := wfs_up' b n h
end Lj
set_option Elab.async false
set_option linter.all false
set_option maxRecDepth 100000
namespace Lj
open PySem PySem.Spec PyProof.Rows L2
/-! ### data of any kind, dicts too -/
def kD : Key → PyData
  | .inl i => .int i
  | .inr x => .str x
mutual
inductive Dd (K : PySem.W.Frag) (H : Hp) : V → PyData → Prop
  | non : Dd K H .non .none
  | bl (b : Bool) : Dd K H (.bl b) (.bool b)
  | int (i : Int) : Dd K H (.int i) (.int i)
  | str (x : Str) : Dd K H (.str x) (.str x)
  | lst {a : Addr} {xs : List V} {ds : List PyData} (q : SqL K H a xs) (r : DdAll K H xs ds) : Dd K H (.ref a) (.list ds)
  | tup {a : Addr} {xs : List V} {ds : List PyData} (q : SqT K H a xs) (r : DdAll K H xs ds) : Dd K H (.ref a) (.tuple ds)
  | dct {a : Addr} {kvs : List (Key × V)} {kds : List (PyData × PyData)} (q : H a = some (.dK kvs)) (e : kvs.map (fun kv => kD kv.1) = kds.map (·.1)) (r : DdAll K H (kvs.map (·.2)) (kds.map (·.2))) : Dd K H (.ref a) (.dict kds)
inductive DdAll (K : PySem.W.Frag) (H : Hp) : List V → List PyData → Prop
  | nil : DdAll K H [] []
  | cons {v : V} {vs : List V} {d : PyData} {ds : List PyData} (h : Dd K H v d) (t : DdAll K H vs ds) : DdAll K H (v :: vs) (d :: ds)
end
section
variable {X : Cx} {pins : List (Addr × Obj)} {σ : L2.St} {H : Hp} {s : Shared}
/-- the keys of a dict, as texts -/
theorem keys_show {P : Program} {w : World} {h : Heap} {n : Nat} : ∀ {es : List DictEntry} {vs : List (Key × Value)} {ks : List PyData}, Pairs (mixKind P w) es vs → vs.map (fun kv => kD kv.1) = ks → PyData.showableAll ks = true → (∀ t ∈ PyData.shownAll ks, t.length ≤ sizeLine) →
    (∃ as, ReadsAll h (es.map (·.key)) ks as) ∧ ReprAllK P w [] h n (es.map (·.key)) (PyData.shownAll ks) := by
  intro es vs ks hp
  induction hp generalizing ks with
  | nil =>
    rintro rfl _ _
    exact ⟨⟨_, .nil⟩, .nil⟩
  | @cons e kv es kvs hk hv _ ih =>
    rintro rfl hs hz
    simp only [List.map_cons, PyData.showableAll, Bool.and_eq_true] at hs
    obtain ⟨⟨as, i1⟩, i2⟩ := ih rfl hs.2 fun t m => hz t (by simp only [List.map_cons, PyData.shownAll]; exact List.mem_cons_of_mem _ m)
    have hz0 := hz (kD kv.1).shown (by simp only [List.map_cons, PyData.shownAll]; exact List.mem_cons_self ..)
    rcases keyIs_shape hk with ⟨i, t, e1, e2⟩ | ⟨x, t, e1, e2⟩
    · rw [e1] at hs hz0
      refine ⟨⟨[] ++ as, ?_⟩, ?_⟩
      · simp only [List.map_cons, e1, e2]
        exact .cons (.int i t) i1
      · simp only [List.map_cons, e1, e2, PyData.shownAll]
        exact .cons (.of_is (ReprIs.int t (of_decide_eq_true hs.1)) _ _ _) i2
    · rw [e1] at hs hz0
      refine ⟨⟨[] ++ as, ?_⟩, ?_⟩
      · simp only [List.map_cons, e1, e2]
        exact .cons (.str x t) i1
      · simp only [List.map_cons, e1, e2, PyData.shownAll]
        exact .cons (.of_is (ReprIs.str x t hz0) _ _ _) i2
theorem vals_of_pairs {P : Program} {w : World} : ∀ {es : List DictEntry} {vs : List (Key × Value)} {kvs : List (Key × V)}, Pairs (mixKind P w) es vs → KV kvs vs → Vals (kvs.map (·.2)) (es.map (·.val)) ∧ vs.map (fun kv => kD kv.1) = kvs.map (fun kv => kD kv.1) := by
  intro es vs kvs hp
  induction hp generalizing kvs with
  | nil =>
    intro r
    cases r
    exact ⟨.nil, rfl⟩
  | @cons e kv es vs hk hv _ ih =>
    intro r
    cases r with
    | @cons p _ ps _ h t =>
      obtain ⟨i1, i2⟩ := ih t
      exact ⟨.cons (by show RelV p.2 e.val; rw [hv]; exact h.2) i1, by simp only [List.map_cons, i2, h.1]⟩
/-- what is known of a thing to be shown -/
def Sho (P : Program) (w : World) (h : Heap) (u : Value) (d : PyData) : Prop := (∃ as, Reads h u d as) ∧ ∃ bs, ReadAtMost h d.depth bs ∧ ReprK P w bs h d.depth u d.shown
def ShoAll (P : Program) (w : World) (h : Heap) (us : List Value) (ds : List PyData) : Prop := (∃ as, ReadsAll h us ds as) ∧ ∃ bs, ReadAtMost h (PyData.depthAll ds) bs ∧ ReprAllK P w bs h (PyData.depthAll ds) us (PyData.shownAll ds)
theorem no_at {h : Heap} {n : Nat} : ReadAtMost h n [] := fun _ m => nomatch m
mutual
theorem Dd.sho (I : Inv X pins σ H s) : ∀ {v : V} {d : PyData} {u : Value}, Dd X.K H v d → RelV v u → d.showable = true → d.shown.length ≤ sizeLine → Sho X.prog X.w s.heap u d
  | _, _, _, .non, r, _, _ => by
    cases r
    exact ⟨⟨_, .none⟩, [], no_at, .of_is ReprIs.none _ _ _⟩
  | _, _, _, .bl b, r, _, _ => by
    cases r
    exact ⟨⟨_, .bool b⟩, [], no_at, .of_is (ReprIs.bool b) _ _ _⟩
  | _, _, _, .int i, r, hs, _ => by
    obtain ⟨t, rfl⟩ := r
    exact ⟨⟨_, .int i t⟩, [], no_at, .of_is (ReprIs.int t (of_decide_eq_true hs)) _ _ _⟩
  | _, _, _, .str x, r, _, hz => by
    obtain ⟨t, rfl⟩ := r
    exact ⟨⟨_, .str x t⟩, [], no_at, .of_is (ReprIs.str x t hz) _ _ _⟩
  | _, _, _, .lst (a := a) (xs := xs) (ds := ds) q rr, r, hs, hz => by
    cases r
    obtain ⟨its, rv, ⟨o, n, ho, hc, _, hd⟩, _⟩ := I.list q
    obtain ⟨⟨as, rd⟩, bs, rb, rk⟩ := Dd.shoAll I rr rv hs fun t m => Nat.le_trans (listText_mem_le m) hz
    have top : Reads s.heap (.ref a) (.list ds) (a :: as) := .list ho hc hd rd
    refine ⟨⟨_, top⟩, a :: bs, ReadAtMost.cons top (Nat.le_succ _) rb, ?_⟩
    cases its with
    | nil =>
      cases rd
      exact ReprK.listEmpty ho hc hd
    | cons x l => exact ReprK.list ho hc hd (not_mem_of_deeper top (Nat.lt_succ_self _) rb) rk.length_eq fun i y e => rk.item i y (by rw [List.getElem?_toArray] at e; exact e)
  | _, _, _, .tup (a := a) (xs := xs) (ds := ds) q rr, r, hs, hz => by
    cases r
    obtain ⟨its, rv, ⟨o, ho, hc, n, hd⟩, _⟩ := I.tuple q
    obtain ⟨⟨as, rd⟩, bs, rb, rk⟩ := Dd.shoAll I rr rv hs fun t m => Nat.le_trans (tupleText_mem_le m) hz
    have top : Reads s.heap (.ref a) (.tuple ds) as := .tuple ho hc hd rd
    exact ⟨⟨_, top⟩, a :: bs, ReadAtMost.cons top (Nat.le_succ _) rb, ReprK.tuple ho hc hd (not_mem_of_deeper top (Nat.lt_succ_self _) rb) rk⟩
  | _, _, _, .dct (a := a) (kvs := kvs) (kds := kds) q e rr, r, hs, hz => by
    cases r
    obtain ⟨_, hsys, vs, kv, o, es, ep, ho, hc, hd, _, hp, _⟩ := (show ObjOk X.prog X.w H s.heap a (.dK kvs) from I.hok a _ q)
    obtain ⟨s1, s2⟩ := PyData.showableKv_split kds hs
    obtain ⟨v1, v2⟩ := vals_of_pairs hp kv
    obtain ⟨⟨as, rd⟩, bs, rb, rk⟩ := Dd.shoAll I rr v1 s2 fun t m => by
      obtain ⟨p, mp, hl⟩ := PyData.shownKv_val_le kds t m
      exact Nat.le_trans hl (Nat.le_trans (dictText_mem_le mp) hz)
    obtain ⟨⟨as2, kr⟩, kk⟩ := keys_show (h := s.heap) (n := PyData.depthKv kds) hp (v2.trans e) s1 fun t m => by
      obtain ⟨p, mp, hl⟩ := PyData.shownKv_key_le kds t m
      exact Nat.le_trans hl (Nat.le_trans (dictText_mem_le mp) hz)
    have top : Reads s.heap (.ref a) (.dict kds) (a :: as2 ++ as) := .dict ho hc.1 hd kr rd
    have rb' := rb.mono (PyData.depthAll_vals_le kds)
    refine ⟨⟨_, top⟩, a :: bs, ReadAtMost.cons top (Nat.le_succ _) rb', ?_⟩
    have nm : a ∉ bs := not_mem_of_deeper top (Nat.lt_succ_self _) rb'
    have en := ReprEntriesK.of_two es.toList _ _ (kk.more_le (fun b (hb : b ∈ ([] : List Addr)) => absurd hb List.not_mem_nil) (Nat.le_refl _)) (rk.more_le (fun b hb => hb) (PyData.depthAll_vals_le kds))
    rw [← PyData.shownKv_eq] at en
    exact ReprK.dict ho hc.1 hd hsys nm en
theorem Dd.shoAll (I : Inv X pins σ H s) : ∀ {vs : List V} {ds : List PyData} {us : List Value}, DdAll X.K H vs ds → Vals vs us → PyData.showableAll ds = true → (∀ t ∈ PyData.shownAll ds, t.length ≤ sizeLine) → ShoAll X.prog X.w s.heap us ds
  | _, _, _, .nil, r, _, _ => by
    cases r
    exact ⟨⟨_, .nil⟩, [], no_at, .nil⟩
  | _, _, _, .cons (d := d) (ds := ds) h t, .cons r1 r2, hs, hz => by
    have hs' : (d.showable && PyData.showableAll ds) = true := hs
    rw [Bool.and_eq_true] at hs'
    obtain ⟨⟨as, a1⟩, bs, b1, k1⟩ := Dd.sho I h r1 hs'.1 (hz _ (List.mem_cons_self ..))
    obtain ⟨⟨as2, a2⟩, bs2, b2, k2⟩ := Dd.shoAll I t r2 hs'.2 fun t m => hz t (List.mem_cons_of_mem _ m)
    refine ⟨⟨_, .cons a1 a2⟩, bs ++ bs2, (b1.mono (Nat.le_max_left _ _)).append (b2.mono (Nat.le_max_right _ _)), .cons ?_ ?_⟩
    · exact (k1.more fun b m => List.mem_append_left _ m).level_le (Nat.le_max_left _ _)
    · exact k2.more_le (fun b m => List.mem_append_right _ m) (Nat.le_max_right _ _)
end
end
/-- repr of data of any kind -/
theorem repr_any {X : Cx} {pins : List (Addr × Obj)} {σ : L2.St} {H : Hp} {s : Shared} {v : V} {u : Value} {d : PyData} {A : Around} {E : Value → Shared → Prop} {Q : Value → Shared → Prop} (I : Inv X pins σ H s) (dd : Dd X.K H v d) (r : RelV v u) (sh : d.showable = true) (hg : A.guards = some []) (hu : A.units + (d.depth + 1) < cLine) (sz : d.shown.length ≤ sizeLine)
    (hQ : ∀ h' t tk, (∀ b o, s.heap.get? b = some o → h'.get? b = some o) → Q (.str d.shown t) { s with heap := h', toks := tk }) : wpAny (model X.prog X.w) A (call (.builtin "repr") [u]) Q E s := by
  have no : ∀ b o, s.heap.get? b = some o → s.heap.get? b = some o := fun _ _ e => e
  cases dd with
  | non =>
    cases r
    exact _root_.PySem.P.repr_of_none (hQ s.heap s.toks (s.toks + 1) no)
  | bl b =>
    cases r
    refine _root_.PySem.P.repr_of_bool ?_
    cases b
    · exact hQ s.heap s.toks (s.toks + 1) no
    · exact hQ s.heap s.toks (s.toks + 1) no
  | int i =>
    obtain ⟨t, rfl⟩ := r
    exact _root_.PySem.P.repr_of_int (of_decide_eq_true sh) (hQ s.heap s.toks (s.toks + 1) no)
  | str x =>
    obtain ⟨t, rfl⟩ := r
    exact _root_.PySem.P.repr_of_str (hQ s.heap s.toks (s.toks + 1) no) sz
  | @lst a xs ds q rr =>
    cases r
    obtain ⟨its, rv, ⟨o, n, ho, hc, _, hd⟩, _⟩ := I.list q
    obtain ⟨⟨as, rd⟩, bs, rb, rk⟩ := Dd.shoAll I rr rv sh fun t m => Nat.le_trans (listText_mem_le m) sz
    have top : Reads s.heap (.ref a) (.list ds) (a :: as) := .list ho hc hd rd
    have nm := not_mem_of_deeper top (Nat.lt_succ_self _) rb
    have hu' : A.units + (PyData.depthAll ds + 1 + 1) < cLine := hu
    refine call_repr_slot (T := "list") (by omega) ⟨o, ho, hc⟩ F.slot_list_repr.toG ?_
    cases its with
    | nil =>
      cases rd
      exact call_list_repr_empty ⟨o, ho, hc⟩ ho hd ⟨_, _, rfl, hQ s.heap _ _ no⟩
    | cons x l => exact call_list_reprK (A := A.in1) ho hc hd nm rk.length_eq (fun i y e => rk.item i y (by rw [List.getElem?_toArray] at e; exact e)) hg (fun b _ => Clear.nil b) (by show A.units + 1 + _ < cLine; omega) no (fun h' t tk k => ⟨_, _, rfl, hQ h' t tk k⟩) sz
  | @tup a xs ds q rr =>
    cases r
    obtain ⟨its, rv, ⟨o, ho, hc, n, hd⟩, _⟩ := I.tuple q
    obtain ⟨⟨as, rd⟩, bs, rb, rk⟩ := Dd.shoAll I rr rv sh fun t m => Nat.le_trans (tupleText_mem_le m) sz
    have top : Reads s.heap (.ref a) (.tuple ds) as := .tuple ho hc hd rd
    have nm := not_mem_of_deeper top (Nat.lt_succ_self _) rb
    have hu' : A.units + (PyData.depthAll ds + 1 + 1) < cLine := hu
    exact call_repr_slot (T := "tuple") (by omega) ⟨o, ho, hc⟩ F.slot_tuple_repr (call_tuple_reprK (A := A.in1) ho hc hd nm rk hg (fun b _ => Clear.nil b) (by show A.units + 1 + _ < cLine; omega) no (fun h' t tk k => ⟨_, _, rfl, hQ h' t tk k⟩) sz)
  | @dct a kvs kds q e rr =>
    cases r
    obtain ⟨_, hsys, vs, kv, o, es, ep, ho, hc, hd, _, hp, _⟩ := (show ObjOk X.prog X.w H s.heap a (.dK kvs) from I.hok a _ q)
    obtain ⟨s1, s2⟩ := PyData.showableKv_split kds sh
    obtain ⟨v1, v2⟩ := vals_of_pairs hp kv
    obtain ⟨⟨as, rd⟩, bs, rb, rk⟩ := Dd.shoAll I rr v1 s2 fun t m => by
      obtain ⟨p, mp, hl⟩ := PyData.shownKv_val_le kds t m
      exact Nat.le_trans hl (Nat.le_trans (dictText_mem_le mp) sz)
    obtain ⟨⟨as2, kr⟩, kk⟩ := keys_show (h := s.heap) (n := PyData.depthKv kds) hp (v2.trans e) s1 fun t m => by
      obtain ⟨p, mp, hl⟩ := PyData.shownKv_key_le kds t m
      exact Nat.le_trans hl (Nat.le_trans (dictText_mem_le mp) sz)
    have top : Reads s.heap (.ref a) (.dict kds) (a :: as2 ++ as) := .dict ho hc.1 hd kr rd
    have nm : a ∉ bs := not_mem_of_deeper top (Nat.lt_succ_self _) (rb.mono (PyData.depthAll_vals_le kds))
    have en := ReprEntriesK.of_two es.toList _ _ (kk.more_le (fun b (hb : b ∈ ([] : List Addr)) => absurd hb List.not_mem_nil) (Nat.le_refl _)) (rk.more_le (fun b hb => hb) (PyData.depthAll_vals_le kds))
    rw [← PyData.shownKv_eq] at en
    have hu' : A.units + (PyData.depthKv kds + 1 + 1) < cLine := hu
    exact call_repr_slot (T := "dict") (by omega) ⟨o, ho, hc.1⟩ F.slot_dict_repr (call_dict_reprK (A := A.in1) ho hc.1 hd hsys nm en hg (fun b _ => Clear.nil b) (by show A.units + 1 + _ < cLine; omega) no (fun h' t tk k => ⟨_, _, rfl, hQ h' t tk k⟩) sz)
def rReprA (K : PySem.W.Frag) : List V → Hp → VK → Prop := fun xs H Q => ∃ x d, xs = [x] ∧ Dd K H x d ∧ d.showable = true ∧ d.depth ≤ 64 ∧ d.shown.length ≤ sizeLine ∧ Q (.str d.shown) H
theorem call_reprA {X : Cx} {K : PySem.W.Frag} {k : Nat} (h : X.K = K) (hg : X.A.guards = some []) (hr : Room k X.A) : CallR X (.builtin "repr") (rReprA K) := by
  subst h
  intro pins s σ H xs us Q I r h
  obtain ⟨x, d, rfl, dd, sh, de, sz, q⟩ := h
  obtain ⟨u, rfl, ru⟩ := r.one
  have un := hr.un
  exact repr_any I dd ru sh hg (by omega) sz fun h' t tk keep => ⟨.str _, H, I.kept keep, ⟨_, rfl⟩, q⟩
/-! ### it stays -/
mutual
theorem Dd.kt {K : PySem.W.Frag} {H H' : Hp} (l : ∀ {a xs}, SqL K H a xs → SqL K H' a xs) (t : ∀ {a xs}, SqT K H a xs → SqT K H' a xs) (k : ∀ {a kvs}, H a = some (.dK kvs) → H' a = some (.dK kvs)) : ∀ {v : V} {d : PyData}, Dd K H v d → Dd K H' v d
  | _, _, .non => .non
  | _, _, .bl b => .bl b
  | _, _, .int i => .int i
  | _, _, .str x => .str x
  | _, _, .lst q r => .lst (l q) (DdAll.kt l t k r)
  | _, _, .tup q r => .tup (t q) (DdAll.kt l t k r)
  | _, _, .dct q e r => .dct (k q) e (DdAll.kt l t k r)
theorem DdAll.kt {K : PySem.W.Frag} {H H' : Hp} (l : ∀ {a xs}, SqL K H a xs → SqL K H' a xs) (t : ∀ {a xs}, SqT K H a xs → SqT K H' a xs) (k : ∀ {a kvs}, H a = some (.dK kvs) → H' a = some (.dK kvs)) : ∀ {vs : List V} {ds : List PyData}, DdAll K H vs ds → DdAll K H' vs ds
  | _, _, .nil => .nil
  | _, _, .cons h t' => .cons (Dd.kt l t k h) (DdAll.kt l t k t')
end
theorem tup_same {K : PySem.W.Frag} {H H' : Hp} {a : Addr} {xs : List V} (s : Same H H') (h : SqT K H a xs) : SqT K H' a xs := by
  rcases h with (h | ⟨o, h⟩) | h
  · exact .inl (.inl (s _ _ h))
  · exact .inl (.inr ⟨o, s _ _ h⟩)
  · exact .inr h
theorem Dd.same {K : PySem.W.Frag} {H H' : Hp} {v : V} {d : PyData} (s : Same H H') (h : Dd K H v d) : Dd K H' v d := h.kt (fun q => s.seq q) (fun q => tup_same s q) (fun q => s _ _ q)
/-- the heap but for what stands at u -/
def off (u : Addr) (H : Hp) : Hp := fun b => if b = u then none else H b
theorem off_same {u : Addr} {H : Hp} : Same (off u H) H := fun b o h => by
  unfold off at h
  split at h
  · cases h
  · exact h
theorem off_but {u : Addr} {H H' : Hp} (k : But u H H') : Same (off u H) (off u H') := fun b o h => by
  unfold off at h ⊢
  split at h
  · cases h
  · rename_i n
    rw [if_neg n]
    exact k b o n h
theorem off_at {u p : Addr} {H : Hp} {o : HO} (h : H p = some o) (n : p ≠ u) : off u H p = some o := by
  unfold off
  rw [if_neg n]
  exact h
theorem Dd.but {K : PySem.W.Frag} {u : Addr} {H H' : Hp} {v : V} {d : PyData} (k : But u H H') (h : Dd K (off u H) v d) : Dd K (off u H') v d := h.same (off_but k)
theorem Dd.on {K : PySem.W.Frag} {u : Addr} {H : Hp} {v : V} {d : PyData} (h : Dd K (off u H) v d) : Dd K H v d := h.same off_same
/-- the kind of a thing -/
theorem Dd.ty {K : PySem.W.Frag} {H : Hp} {v : V} {d : PyData} (h : Dd K H v d) : ∃ T : String, TyX K H v (.type T) ∧ (T = "int" ↔ ∃ i, v = .int i) ∧ (T = "bool" ↔ ∃ b, v = .bl b) ∧ T ∈ ["NoneType", "bool", "int", "str", "list", "tuple", "dict"] := by
  cases h with
  | non => exact ⟨"NoneType", .base .non, by simp, by simp, by simp⟩
  | bl b => exact ⟨"bool", .base (.bl b), by simp, by simp, by simp⟩
  | int i => exact ⟨"int", .base (.int i), by simp, by simp, by simp⟩
  | str x => exact ⟨"str", .base (.str x), by simp, by simp, by simp⟩
  | lst q r =>
    refine ⟨"list", ?_, by simp, by simp, by simp⟩
    rcases q with (q | ⟨o, q⟩) | ⟨o, its, n, q, c, _⟩
    · exact .base (.lst q)
    · exact .base (.frz q)
    · exact .kList q c
  | tup q r =>
    refine ⟨"tuple", ?_, by simp, by simp, by simp⟩
    rcases q with (q | ⟨o, q⟩) | ⟨o, its, n, q, c, _⟩
    · exact .base (.tup q)
    · exact .fTuple q
    · exact .kTuple q c
  | dct q e r => exact ⟨"dict", .base (.dK q), by simp, by simp, by simp⟩
/-! ### data that is shown in few signs -/
def Nice (n : Nat) (d : PyData) : Prop := d.showable = true ∧ d.depth ≤ n ∧ d.shown.length ≤ 3000 + 20 * n
theorem Nice.up {n m : Nat} {d : PyData} (h : Nice n d) (l : n ≤ m) : Nice m d := ⟨h.1, Nat.le_trans h.2.1 l, Nat.le_trans h.2.2 (by omega)⟩
theorem Nice.line {n : Nat} {d : PyData} (h : Nice n d) (l : n ≤ 64) : d.showable = true ∧ d.depth ≤ 64 ∧ d.shown.length ≤ sizeLine := ⟨h.1, Nat.le_trans h.2.1 l, Nat.le_trans h.2.2 (by rw [sizeLine_eq]; omega)⟩
theorem nice_int {i : Int} (h : i.natAbs.log2 < 1920) : Nice 0 (.int i) := by
  obtain ⟨a, _, b, c⟩ := leaf_int h
  exact ⟨a, Nat.le_of_eq b, Nat.le_trans c (by decide)⟩
theorem tup1_len (t : Str) : (tupleText [t]).length = t.length + 3 := by
  unfold tupleText
  rw [strLen_append, strLen_append]
  show 1 + t.length + 2 = t.length + 3
  omega
theorem lst1_len (t : Str) : (listText [t]).length = t.length + 2 := by
  unfold listText
  rw [strLen_append]
  show (("[" : Str) ++ ("" : Str) ++ t).length + 1 = t.length + 2
  rw [strLen_append, strLen_append]
  show 1 + 0 + t.length + 1 = t.length + 2
  omega
theorem dct1_len (t : Str) : (dictText [t]).length = t.length + 2 := by
  unfold dictText
  rw [strLen_append, strLen_append]
  show 1 + t.length + 1 = t.length + 2
  omega
theorem tup2_len (t u : Str) : (tupleText [t, u]).length = t.length + u.length + 4 := by
  unfold tupleText
  have e := join_length_add [t, u] (by simp)
  rw [piled_cons, piled_cons, piled_nil] at e
  rw [strLen_append, strLen_append]
  show 1 + (Str.join ", " [t, u]).length + 1 = _
  omega
theorem nice_tup1 {n : Nat} {d : PyData} (h : Nice n d) : Nice (n + 1) (.tuple [d]) := by
  obtain ⟨a, b, c⟩ := h
  refine ⟨by simp only [PyData.showable, PyData.showableAll, a, Bool.and_self], ?_, ?_⟩
  · simp only [PyData.depth, PyData.depthAll]
    omega
  · simp only [PyData.shown, PyData.shownAll, tup1_len]
    omega
theorem nice_lst1 {n : Nat} {d : PyData} (h : Nice n d) : Nice (n + 1) (.list [d]) := by
  obtain ⟨a, b, c⟩ := h
  refine ⟨by simp only [PyData.showable, PyData.showableAll, a, Bool.and_self], ?_, ?_⟩
  · simp only [PyData.depth, PyData.depthAll]
    omega
  · simp only [PyData.shown, PyData.shownAll, lst1_len]
    omega
theorem nice_dct1 {n : Nat} {d : PyData} {x : Str} (hx : (reprText x).length ≤ 10) (h : Nice n d) : Nice (n + 1) (.dict [(.str x, d)]) := by
  obtain ⟨a, b, c⟩ := h
  refine ⟨by simp only [PyData.showable, PyData.showableKv, a, Bool.and_self], ?_, ?_⟩
  · simp only [PyData.depth, PyData.depthKv]
    omega
  · simp only [PyData.shown, PyData.shownKv, dct1_len]
    rw [strLen_append, strLen_append]
    show (reprText x).length + 2 + d.shown.length + 2 ≤ _
    omega
theorem nice_tup2 {n : Nat} {d e : PyData} (h : Nice n d) (k : Nice 0 e) (l : e.shown.length ≤ 10) : Nice (n + 1) (.tuple [d, e]) := by
  obtain ⟨a, b, c⟩ := h
  obtain ⟨a', b', _⟩ := k
  refine ⟨by simp only [PyData.showable, PyData.showableAll, a, a', Bool.and_self], ?_, ?_⟩
  · simp only [PyData.depth, PyData.depthAll]
    omega
  · simp only [PyData.shown, PyData.shownAll, tup2_len]
    omega
end Lj
set_option Elab.async false
set_option linter.all false
set_option maxRecDepth 100000
namespace Lj
open PySem PySem.Spec PyProof.Rows L2
theorem div_ok {i j : Int} {k : Nat} (h0 : 0 < j) (h : j.natAbs < 2 ^ k) (k0 : 0 < k) (k1 : k ≤ 9000) : CDivP i j := ⟨h0, PyProof.noPylong_of_log2 (Nat.lt_of_lt_of_le (PySem.Flt.log2_lt_of k0 h) k1)⟩
/-! ### the last step that assigns a register -/
/-- the registers that an instruction assigns -/
def asgs (w : Str) (as : List Int) : List Int := if w = "swap" then as else if w = "write" then [] else as.take 1
def Tr.asg (x : Int) : Tr → Bool
  | .op w as => decide (x ∈ asgs w as)
  | .loop _ _ => false
def la (x : Int) : List Tr → Option Nat
  | [] => none
  | t :: r => match la x r with
    | some j => some (j + 1)
    | none => if t.asg x then some 0 else none
theorem la_append (x : Int) (ys : List Tr) : ∀ xs : List Tr, la x (xs ++ ys) = match la x ys with
    | some j => some (xs.length + j)
    | none => la x xs
  | [] => by
    show la x ys = _
    cases la x ys with
    | none => rfl
    | some j => show some j = some (0 + j); rw [Nat.zero_add]
  | t :: r => by
    show (match la x (r ++ ys) with | some j => some (j + 1) | none => if t.asg x then some 0 else none) = _
    rw [la_append x ys r]
    cases la x ys with
    | none => rfl
    | some j =>
      show some (r.length + j + 1) = some (r.length + 1 + j)
      congr 1
      omega
theorem la_flat (x : Int) (xs : List Tr) : ∀ n : Nat, la x (List.replicate n xs).flatten = match n, la x xs with
    | 0, _ => none
    | k + 1, some j => some (k * xs.length + j)
    | _ + 1, none => none
  | 0 => rfl
  | n + 1 => by
    rw [List.replicate_succ', List.flatten_append, List.flatten_cons, List.flatten_nil, List.append_nil, la_append]
    cases h : la x xs with
    | some j =>
      show some (((List.replicate n xs).flatten).length + j) = some (n * xs.length + j)
      rw [flat_len]
    | none =>
      show la x (List.replicate n xs).flatten = none
      rw [la_flat x xs n, h]
      cases n <;> rfl
/-- a prefix of a repeated list -/
theorem take_flat {α : Type} (xs : List α) (n k r : Nat) (hk : k < n) (hr : r ≤ xs.length) : ((List.replicate n xs).flatten).take (k * xs.length + r) = (List.replicate k xs).flatten ++ xs.take r := by
  obtain ⟨m, rfl⟩ : ∃ m, n = k + (m + 1) := ⟨n - k - 1, by omega⟩
  rw [← List.replicate_append_replicate, List.flatten_append, ← flat_len k xs, List.take_length_add_append, List.replicate_succ, List.flatten_cons, List.take_append_of_le_length hr]
theorem take_flat_all {α : Type} (xs : List α) (n : Nat) : ((List.replicate n xs).flatten).take (n * xs.length) = (List.replicate n xs).flatten := by
  rw [← flat_len n xs]
  exact List.take_length
/-- an optional number as a value -/
def optV : Option Nat → V
  | none => .non
  | some j => .int (j : Nat)
mutual
/-- each instruction but loops has arguments -/
def Tr.hasArgs : Tr → Prop
  | .op _ as => as ≠ []
  | .loop _ b => haveArgs b
def haveArgs : List Tr → Prop
  | [] => True
  | t :: r => t.hasArgs ∧ haveArgs r
end
theorem args_get : ∀ {b : List Tr} {i : Nat} {t : Tr}, haveArgs b → b[i]? = some t → t.hasArgs
  | [], _, _, _, e => by simp at e
  | t :: r, 0, u, h, e => by
    cases e
    rw [haveArgs] at h
    exact h.1
  | t :: r, i + 1, u, h, e => by
    rw [haveArgs] at h
    exact args_get (i := i) h.2 e
theorem GoodOp.args {p n : Int} {w : Str} {as : List Int} (h : GoodOp p n w as) : as ≠ [] := by
  rcases h with ⟨_, _, _, rfl, _⟩ | ⟨_, _, rfl, _⟩ | ⟨_, _, _, rfl, _⟩ | ⟨_, _, _, _, rfl, _⟩ <;> intro z <;> cases z
mutual
theorem Tr.made_args {G : Str → List Int → Prop} {R : Int → Prop} (hG : ∀ w as, G w as → as ≠ []) : ∀ (t : Tr) (l d : Nat), t.made G R l d → t.hasArgs
  | .op w as, l, d, h => by
    rw [Tr.made] at h
    rw [Tr.hasArgs]
    exact hG w as h
  | .loop k b, l, 0, h => by rw [Tr.made] at h; exact h.elim
  | .loop k b, l, d + 1, h => by
    rw [Tr.made] at h
    rw [Tr.hasArgs]
    exact mades_args hG b (l / 2) d h.2.2
theorem mades_args {G : Str → List Int → Prop} {R : Int → Prop} (hG : ∀ w as, G w as → as ≠ []) : ∀ (b : List Tr) (l d : Nat), mades G R b l d → haveArgs b
  | [], _, _, _ => by rw [haveArgs]; trivial
  | t :: r, l, d, h => by
    rw [mades] at h
    rw [haveArgs]
    exact ⟨Tr.made_args hG t l d h.1, mades_args hG r l d h.2⟩
end
theorem mades_drop {G : Str → List Int → Prop} {R : Int → Prop} : ∀ {b : List Tr} {l d : Nat}, mades G R b l d → mades G R (b.drop 1) l d
  | [], _, _, h => h
  | t :: r, l, d, h => by
    rw [mades] at h
    exact h.2
/-! ### slices of tuples -/
theorem cut_tail (x : V) (xs : List V) : cutV (x :: xs) (some 1) none = xs := by
  unfold cutV
  rw [show HT.sIx (x :: xs).length 0 (some 1) = min 1 (x :: xs).length from HT.sIx_nat _ _ 1, HT.sIx_none, List.length_cons, show min 1 (xs.length + 1) = 1 by omega]
  show (xs.take (xs.length + 1 - 1)) = xs
  rw [Nat.add_sub_cancel]
  exact List.take_length
theorem cut_tail_ne (x : V) (xs : List V) : ¬ (HT.sIx (x :: xs).length 0 (some 1) = 0 ∧ HT.sIx (x :: xs).length (x :: xs).length none = (x :: xs).length) := by
  rw [show HT.sIx (x :: xs).length 0 (some 1) = min 1 (x :: xs).length from HT.sIx_nat _ _ 1, List.length_cons, show min 1 (xs.length + 1) = 1 by omega]
  rintro ⟨h, _⟩
  cases h
theorem cut_one (x : V) (xs : List V) : cutV (x :: xs) (some 1) (some 2) = xs.take 1 := by
  unfold cutV
  rw [show HT.sIx (x :: xs).length 0 (some 1) = min 1 (x :: xs).length from HT.sIx_nat _ _ 1, show HT.sIx (x :: xs).length (x :: xs).length (some 2) = min 2 (x :: xs).length from HT.sIx_nat _ _ 2, List.length_cons, show min 1 (xs.length + 1) = 1 by omega]
  show xs.take (min 2 (xs.length + 1) - 1) = xs.take 1
  cases xs with
  | nil => rfl
  | cons y ys => rw [show min 2 ((y :: ys).length + 1) - 1 = 1 by rw [List.length_cons]; omega]
theorem cut_one_ne (x : V) (xs : List V) : ¬ (HT.sIx (x :: xs).length 0 (some 1) = 0 ∧ HT.sIx (x :: xs).length (x :: xs).length (some 2) = (x :: xs).length) := by
  rw [show HT.sIx (x :: xs).length 0 (some 1) = min 1 (x :: xs).length from HT.sIx_nat _ _ 1, List.length_cons, show min 1 (xs.length + 1) = 1 by omega]
  rintro ⟨h, _⟩
  cases h
theorem flat_ints (ns : List Int) : (ns.map V.int).all flatV = true := by
  induction ns with
  | nil => rfl
  | cons s r ih => exact ih
theorem inV_ints {z : Int} : ∀ {ss : List Int}, inV (.int z) (ss.map V.int) = decide (z ∈ ss)
  | [] => by
    show false = _
    rw [decide_eq_false (List.not_mem_nil)]
  | s :: r => by
    show (s == z || inV (.int z) (r.map V.int)) = _
    rw [inV_ints, Bool.eq_iff_iff, Bool.or_eq_true, decide_eq_true_iff, decide_eq_true_iff, List.mem_cons, beq_iff_eq]
    constructor
    · rintro (h | h)
      · exact .inl h.symm
      · exact .inr h
    · rintro (h | h)
      · exact .inl h.symm
      · exact .inr h
/-! ### promises -/
def spAsg (K : PySem.W.Frag) : Sp := fun vs H Q _ => ∃ (v : V) (w : Str) (as : List Int) (x : Int), vs = [v, .int x] ∧ TrAt K H (.op w as) v ∧ as ≠ [] ∧ ∀ H', Same H H' → Q (.bl (decide (x ∈ asgs w as))) H'
def spLA (K : PySem.W.Frag) (n : Nat) : Sp := fun vs H Q _ => ∃ (v : V) (b : List Tr) (m x : Int), vs = [v, .int m, .int x] ∧ BodyAt K H b v ∧ okB n b ∧ haveArgs b ∧ 0 ≤ m ∧ ∀ H', Same H H' → Q (optV (la x ((exs b).take m.toNat))) H'
def spLW (K : PySem.W.Frag) (n : Nat) : Sp := fun vs H Q _ => ∃ (v : V) (t : Tr) (m x : Int), vs = [v, .int m, .int x] ∧ TrAt K H t v ∧ okB (n + 1) [t] ∧ t.hasArgs ∧ 0 ≤ m ∧ m ≤ t.len ∧ ∀ H', Same H H' → Q (optV (la x (t.ex.take m.toNat))) H'
theorem la_one (x : Int) (w : Str) (as : List Int) : la x [.op w as] = if x ∈ asgs w as then some 0 else none := by
  show (if decide (x ∈ asgs w as) = true then some 0 else none) = _
  by_cases h : x ∈ asgs w as
  · rw [decide_eq_true h, if_pos h, if_pos rfl]
  · rw [decide_eq_false h, if_neg h, if_neg Bool.false_ne_true]
/-- within a loop -/
theorem la_loop (x : Int) (E : List Tr) (k m : Nat) (hE : 0 < E.length) (hm : m ≤ k * E.length) : la x (((List.replicate k E).flatten).take m) =
    match la x (E.take (m % E.length)) with
    | some j => some (m / E.length * E.length + j)
    | none => match m / E.length, la x E with
      | 0, _ => none
      | t + 1, some j => some (t * E.length + j)
      | _ + 1, none => none := by
  have hd := Nat.div_add_mod m E.length
  have hr := Nat.mod_lt m hE
  generalize m / E.length = t at hd
  generalize m % E.length = r at hd hr
  have e : ((List.replicate k E).flatten).take m = (List.replicate t E).flatten ++ E.take r := by
    rw [← hd, Nat.mul_comm]
    by_cases h : t < k
    · exact take_flat E k t r h (Nat.le_of_lt hr)
    · have h1 : k * E.length ≤ t * E.length := Nat.mul_le_mul_right _ (by omega)
      have h2 : t * E.length + r ≤ k * E.length := by rw [← hd, Nat.mul_comm] at hm; exact hm
      have h3 : r = 0 := by omega
      have h4 : t = k := by
        have := Nat.eq_of_mul_eq_mul_right hE (show t * E.length = k * E.length by omega)
        exact this
      subst h3 h4
      rw [Nat.add_zero, take_flat_all, List.take_zero, List.append_nil]
  rw [e, la_append]
  cases la x (E.take r) with
  | some j =>
    show some (((List.replicate t E).flatten).length + j) = _
    rw [flat_len]
  | none => exact la_flat x E t
end Lj
namespace Lj
open PySem PySem.Spec PyProof.Rows L2
theorem vals_snoc : ∀ {xs : List V} {us : List Value} {x : V} {u : Value}, Vals xs us → RelV x u → Vals (xs ++ [x]) (us ++ [u])
  | _, _, _, _, .nil, r => .cons r .nil
  | _, _, _, _, .cons a b, r => .cons a (vals_snoc b r)
theorem vals_rev : ∀ {xs : List V} {us : List Value}, Vals xs us → Vals xs.reverse us.reverse
  | _, _, .nil => .nil
  | _, _, .cons a b => by
    rw [List.reverse_cons, List.reverse_cons]
    exact vals_snoc (vals_rev b) a
end Lj
set_option Elab.async false
set_option linter.all false
set_option maxRecDepth 100000
namespace Lj
open PySem PySem.Spec PyProof.Rows L2
/-! ### trees shown -/
mutual
def Tr.datT : Tr → PyData
  | .op w as => .tuple (.str w :: as.map .int)
  | .loop k b => .tuple [.str "loop", .int k, .tuple (datTs b)]
def datTs : List Tr → List PyData
  | [] => []
  | t :: r => t.datT :: datTs r
end
mutual
theorem Tr.dp {K : PySem.W.Frag} {H : Hp} : ∀ (t : Tr) (v : V), TrAt K H t v → Dp K H v t.datT
  | .op w as, v, h => by
    rw [TrAt] at h
    obtain ⟨a, rfl, sq⟩ := h
    rw [Tr.datT]
    exact .tup sq (.cons (.str w) (dp_ints as))
  | .loop k b, v, h => by
    rw [TrAt] at h
    obtain ⟨a, c, vs, rfl, sq, sq2, r⟩ := h
    rw [Tr.datT]
    exact .tup sq (.cons (.str _) (.cons (.int k) (.cons (.tup sq2 (trs_dp b vs r)) .nil)))
theorem trs_dp {K : PySem.W.Frag} {H : Hp} : ∀ (b : List Tr) (vs : List V), TrsAt K H b vs → DpAll K H vs (datTs b)
  | [], vs, h => by
    rw [TrsAt] at h
    rw [h, datTs]
    exact .nil
  | t :: r, vs, h => by
    rw [TrsAt] at h
    obtain ⟨v, us, rfl, a, k⟩ := h
    rw [datTs]
    exact .cons (Tr.dp t v a) (trs_dp r us k)
end
def sb : Nat → Nat
  | 0 => 20000
  | d + 1 => 20000 + 8 * (sb d + 2)
theorem sb_ge : ∀ d, 20000 ≤ sb d
  | 0 => Nat.le_refl _
  | d + 1 => by rw [sb]; omega
/-- short arguments -/
def Short (w : Str) (as : List Int) : Prop := w ∈ W7 ∧ as.length ≤ 3 ∧ ∀ a ∈ as, a.natAbs < 2 ^ 1000
theorem W7_shown {w : Str} (h : w ∈ W7) : (PyData.shown (.str w)).length ≤ 20 := by
  have z : (W7.all fun w => decide ((PyData.shown (.str w)).length ≤ 20)) = true := by decide +kernel
  exact of_decide_eq_true (List.all_eq_true.mp z w h)
mutual
theorem Tr.made_show {G : Str → List Int → Prop} {R : Int → Prop} (hG : ∀ w as, G w as → Short w as) (hR : ∀ k, R k → k.natAbs < 2 ^ 1000) : ∀ (t : Tr) (l d : Nat), l ≤ 8 → t.made G R l d →
    t.datT.showable = true ∧ t.datT.hasDict = false ∧ t.datT.depth ≤ 2 * d + 1 ∧ t.datT.shown.length ≤ sb d
  | .op w as, l, d, hl, h => by
    rw [Tr.made] at h
    obtain ⟨h1, h2, h3⟩ := hG w as h
    obtain ⟨a1, a2, a3, a4, a5⟩ := leaf_all (leaf_ints h3)
    rw [Tr.datT]
    refine ⟨by rw [PyData.showable, PyData.showableAll, PyData.showable, a1]; rfl, by rw [PyData.hasDict, PyData.hasDictAll, PyData.hasDict, a2]; rfl, by rw [PyData.depth, PyData.depthAll, PyData.depth, a3]; exact Nat.succ_le_succ (Nat.zero_le _), ?_⟩
    rw [PyData.shown, PyData.shownAll]
    have z := PySem.tupleText_len_le (PyData.shown (.str w) :: PyData.shownAll (as.map PyData.int))
    rw [List.map_cons, List.sum_cons, List.length_cons, a5] at z
    have z2 := W7_shown h1
    have z3 := sb_ge d
    rw [List.length_map] at z a4
    omega
  | .loop k b, l, 0, _, h => by rw [Tr.made] at h; exact h.elim
  | .loop k b, l, d + 1, hl, h => by
    rw [Tr.made] at h
    obtain ⟨b1, b2, b3, b4, b5⟩ := mades_show hG hR b (l / 2) d (by omega) h.2.2
    obtain ⟨i1, i2, i3, i4⟩ := leaf_int (log_of (hR k h.1) (by decide) (by decide))
    have lp : (PyData.shown (.str "loop")).length ≤ 20 := by decide +kernel
    have y := PySem.tupleText_len_le (PyData.shownAll (datTs b))
    have hb := h.2.1
    rw [Tr.datT]
    refine ⟨by rw [PyData.showable, PyData.showableAll, PyData.showable, PyData.showableAll, i1, PyData.showableAll, PyData.showable, b1, PyData.showableAll]; rfl,
      by rw [PyData.hasDict, PyData.hasDictAll, PyData.hasDict, PyData.hasDictAll, i2, PyData.hasDictAll, PyData.hasDict, b2, PyData.hasDictAll]; rfl,
      by rw [PyData.depth, PyData.depthAll, PyData.depth, PyData.depthAll, i3, PyData.depthAll, PyData.depth, PyData.depthAll]; omega, ?_⟩
    rw [PyData.shown, PyData.shownAll, PyData.shownAll, PyData.shownAll, PyData.shownAll]
    have z := PySem.tupleText_len_le [PyData.shown (.str "loop"), PyData.shown (.int k), PyData.shown (.tuple (datTs b))]
    have ez : (PyData.shown (.tuple (datTs b))) = tupleText (PyData.shownAll (datTs b)) := by rw [PyData.shown]
    rw [List.map_cons, List.map_cons, List.map_cons, List.map_nil, List.sum_cons, List.sum_cons, List.sum_cons, List.sum_nil, ez] at z
    rw [show ([PyData.shown (.str "loop"), PyData.shown (.int k), tupleText (PyData.shownAll (datTs b))] : List Str).length = 3 from rfl] at z
    rw [ez, sb]
    have m1 : b.length * sb d ≤ 4 * sb d := Nat.mul_le_mul_right _ (by omega)
    have := sb_ge d
    omega
theorem mades_show {G : Str → List Int → Prop} {R : Int → Prop} (hG : ∀ w as, G w as → Short w as) (hR : ∀ k, R k → k.natAbs < 2 ^ 1000) : ∀ (b : List Tr) (l d : Nat), l ≤ 8 → mades G R b l d →
    PyData.showableAll (datTs b) = true ∧ PyData.hasDictAll (datTs b) = false ∧ PyData.depthAll (datTs b) ≤ 2 * d + 1 ∧ ((PyData.shownAll (datTs b)).map (·.length)).sum ≤ b.length * sb d ∧ (PyData.shownAll (datTs b)).length = b.length
  | [], l, d, _, _ => by
    rw [datTs]
    exact ⟨by rw [PyData.showableAll], by rw [PyData.hasDictAll], by rw [PyData.depthAll]; exact Nat.zero_le _, by rw [PyData.shownAll]; exact Nat.zero_le _, by rw [PyData.shownAll]; rfl⟩
  | t :: r, l, d, hl, h => by
    rw [mades] at h
    obtain ⟨a1, a2, a3, a4⟩ := Tr.made_show hG hR t l d hl h.1
    obtain ⟨b1, b2, b3, b4, b5⟩ := mades_show hG hR r l d hl h.2
    rw [datTs]
    refine ⟨by rw [PyData.showableAll, a1, b1]; rfl, by rw [PyData.hasDictAll, a2, b2]; rfl, by rw [PyData.depthAll]; omega, ?_, by rw [PyData.shownAll, List.length_cons, b5, List.length_cons]⟩
    rw [PyData.shownAll, List.map_cons, List.sum_cons, List.length_cons, Nat.succ_mul]
    omega
end
/-! ### reads among what is executed -/
def rc (E : List Tr) : Int := (((E.map Tr.word).count ("read" : Str) : Nat) : Int)
theorem rc_nil : rc [] = 0 := rfl
theorem rc_append (a b : List Tr) : rc (a ++ b) = rc a + rc b := by
  unfold rc
  rw [List.map_append, List.count_append, Int.natCast_add]
theorem rc_exs {b : List Tr} {n : Nat} (h : wfs b n) : rc (exs b) = cnts "read" b := exs_cnt "read" b n h
theorem rc_ex {t : Tr} {n : Nat} (h : t.wf n) : rc t.ex = t.cnt "read" := Tr.ex_cnt "read" t n h
theorem rc_flat (xs : List Tr) (n : Nat) : rc (List.replicate n xs).flatten = n * rc xs := by
  unfold rc
  rw [count_flat, Int.natCast_mul]
theorem rc_loop (E : List Tr) (k m : Nat) (hE : 0 < E.length) (hm : m < k * E.length) : rc (((List.replicate k E).flatten).take m) = ((m / E.length : Nat) : Int) * rc E + rc (E.take (m % E.length)) := by
  have hd := Nat.div_add_mod m E.length
  have hr := Nat.mod_lt m hE
  have ht : m / E.length < k := (Nat.div_lt_iff_lt_mul hE).mpr hm
  generalize m / E.length = t at hd ht
  generalize m % E.length = r at hd hr
  rw [← hd, Nat.mul_comm, take_flat E k t r ht (Nat.le_of_lt hr), rc_append, rc_flat]
theorem rc_nn (E : List Tr) : 0 ≤ rc E := Int.natCast_nonneg _
theorem rc_le (E : List Tr) : rc E ≤ E.length := by
  unfold rc
  have := List.count_le_length (a := ("read" : Str)) (l := E.map Tr.word)
  rw [List.length_map] at this
  omega
def spRB (K : PySem.W.Frag) (n : Nat) : Sp := fun vs H Q _ => ∃ (v : V) (b : List Tr) (m : Int), vs = [v, .int m] ∧ BodyAt K H b v ∧ okB n b ∧ 0 ≤ m ∧ ∀ H', Same H H' → Q (.int (rc ((exs b).take m.toNat))) H'
def spRW (K : PySem.W.Frag) (n : Nat) : Sp := fun vs H Q _ => ∃ (v : V) (t : Tr) (m : Int), vs = [v, .int m] ∧ TrAt K H t v ∧ okB (n + 1) [t] ∧ 0 ≤ m ∧ m < t.len ∧ ∀ H', Same H H' → Q (.int (rc (t.ex.take m.toNat))) H'
end Lj
set_option Elab.async false
set_option linter.all false
set_option maxRecDepth 100000
namespace Lj
open PySem PySem.Spec PyProof.Rows L2
theorem wfs_take {b : List Tr} {n i : Nat} (h : wfs b n) : wfs (b.take i) n := wfs_all fun t m => by
  obtain ⟨j, hj, e⟩ := List.mem_iff_getElem.mp (List.mem_of_mem_take m)
  exact wfs_get (i := j) h (by rw [List.getElem?_eq_getElem hj, e])
theorem flat_takeL {b : List Tr} {i : Nat} {t : Tr} (e : b[i]? = some t) : exs (b.take (i + 1)) = exs (b.take i) ++ t.ex := by
  rw [exs_map, exs_map, map_next e, List.flatten_append, List.flatten_cons, List.flatten_nil, List.append_nil]
theorem lens_nextL {b : List Tr} {i : Nat} {t : Tr} (e : b[i]? = some t) : lens (b.take (i + 1)) = lens (b.take i) + t.len := by rw [lens_map, lens_map, sum_next e]
theorem exs_split (b : List Tr) (i : Nat) : exs b = exs (b.take i) ++ exs (b.drop i) := by rw [exs_map, exs_map, exs_map, ← List.flatten_append, ← List.map_append, List.take_append_drop]
theorem lens_split (b : List Tr) (i : Nat) : lens b = lens (b.take i) + lens (b.drop i) := by rw [lens_map, lens_map, lens_map, ← List.sum_append, ← List.map_append, List.take_append_drop]
theorem wfs_drop {b : List Tr} {n i : Nat} (h : wfs b n) : wfs (b.drop i) n := wfs_all fun t m => by
  obtain ⟨j, hj, e⟩ := List.mem_iff_getElem.mp (List.mem_of_mem_drop m)
  exact wfs_get (i := j) h (by rw [List.getElem?_eq_getElem hj, e])
/-! ### paths -/
/-- ps leads into b to the instruction t, the step st of b is the step r of t -/
inductive PT : List Tr → List Int → Tr → Int → Int → Prop
  | here {b : List Tr} {i : Nat} {t : Tr} {r : Int} (e : b[i]? = some t) : PT b [(i : Int)] t r (lens (b.take i) + r)
  | into {b b' : List Tr} {i : Nat} {k turn r st : Int} {t : Tr} {ps : List Int} (e : b[i]? = some (.loop k b')) (h0 : 0 ≤ turn) (h1 : turn < k) (p : PT b' ps t r st) : PT b ((i : Int) :: turn :: ps) t r (lens (b.take i) + (turn * lens b' + st))
theorem PT.deeper {b : List Tr} {ps : List Int} {t : Tr} {r st : Int} (p : PT b ps t r st) : ∀ {k turn r' : Int} {b' : List Tr} {j : Nat} {t' : Tr}, t = .loop k b' → 0 ≤ turn → turn < k → b'[j]? = some t' → r = turn * lens b' + (lens (b'.take j) + r') → PT b (ps ++ [turn, (j : Int)]) t' r' st := by
  induction p with
  | here e =>
    intro k turn r' b' j t' et h0 h1 ej er
    subst et er
    exact .into e h0 h1 (.here ej)
  | into e h0 h1 p ih =>
    intro k turn r' b' j t' et g0 g1 ej er
    exact .into e h0 h1 (ih et g0 g1 ej er)
theorem get_flat {α : Type} (E : List α) (k t r : Nat) (ht : t < k) (hr : r < E.length) : ((List.replicate k E).flatten)[t * E.length + r]? = E[r]? := by
  have h1 := take_flat E k t (r + 1) ht hr
  have h2 : (((List.replicate k E).flatten).take (t * E.length + (r + 1)))[t * E.length + r]? = ((List.replicate t E).flatten ++ E.take (r + 1))[t * E.length + r]? := by rw [h1]
  rw [List.getElem?_take_of_lt (by omega), List.getElem?_append_right (by rw [flat_len]; omega), flat_len, Nat.add_sub_cancel_left, List.getElem?_take_of_lt (by omega)] at h2
  exact h2
theorem PT.step {b : List Tr} {ps : List Int} {t : Tr} {r st : Int} (p : PT b ps t r st) : ∀ {n : Nat}, wfs b n → 0 ≤ r → r < t.len → 0 ≤ st ∧ st < lens b ∧ (exs b)[st.toNat]? = t.ex[r.toNat]? := by
  induction p with
  | @here b i t r e =>
    intro n h r0 r1
    have el := exs_len (b.take i) n (wfs_take h)
    have tl := Tr.ex_len t n (wfs_get h e)
    have l0 := (lens_bd _ n (wfs_take (i := i) h)).1
    have l2 := lens_nextL e
    have l3 := lens_split b (i + 1)
    have l4 := (lens_bd _ n (wfs_drop (i := i + 1) h)).1
    refine ⟨by omega, by omega, ?_⟩
    rw [exs_split b (i + 1), flat_takeL e, List.append_assoc, List.getElem?_append_right (by omega), List.getElem?_append_left (by omega)]
    congr 1
    omega
  | @into b b' i k turn r st t ps e h0 h1 p ih =>
    intro n h r0 r1
    have wt := wfs_get h e
    cases n with
    | zero => rw [Tr.wf] at wt; exact wt.elim
    | succ n =>
      have wt2 := wt
      rw [Tr.wf] at wt
      obtain ⟨s0, s1, s2⟩ := ih wt.2.2.2 r0 r1
      have el := exs_len (b.take i) _ (wfs_take h)
      have eb := exs_len b' n wt.2.2.2
      have tl := Tr.ex_len (.loop k b') _ wt2
      have l0 := (lens_bd _ _ (wfs_take (i := i) h)).1
      have l2 := lens_nextL e
      have l3 := lens_split b (i + 1)
      have l4 := (lens_bd _ _ (wfs_drop (i := i + 1) h)).1
      rw [Tr.len] at l2 tl
      have m0 : 0 ≤ turn * lens b' := Int.mul_nonneg h0 (by omega)
      have m1 : turn * lens b' + lens b' ≤ k * lens b' := by
        have := Int.mul_le_mul_of_nonneg_right (show turn + 1 ≤ k by omega) (show 0 ≤ lens b' by omega)
        rw [Int.add_mul, Int.one_mul] at this
        exact this
      refine ⟨by omega, by omega, ?_⟩
      rw [exs_split b (i + 1), flat_takeL e, List.append_assoc, List.getElem?_append_right (by omega), List.getElem?_append_left (by omega), ← s2, Tr.ex]
      have ix : (lens (b.take i) + (turn * lens b' + st)).toNat - (exs (b.take i)).length = turn.toNat * (exs b').length + st.toNat := by
        have : ((turn.toNat * (exs b').length : Nat) : Int) = turn * lens b' := by
          rw [Int.natCast_mul, eb]
          congr 1
          omega
        omega
      rw [ix]
      exact get_flat (exs b') k.toNat turn.toNat st.toNat (by omega) (by omega)
/-! ### slices of bodies -/
theorem TrsAt.take {K : PySem.W.Frag} {H : Hp} : ∀ {b : List Tr} {vs : List V} (i : Nat), TrsAt K H b vs → TrsAt K H (b.take i) (vs.take i)
  | b, vs, 0, _ => TrsAt.nil
  | [], vs, i + 1, h => by
    rw [TrsAt] at h
    subst h
    exact TrsAt.nil
  | t :: r, vs, i + 1, h => by
    rw [TrsAt] at h
    obtain ⟨v, us, rfl, a, k⟩ := h
    rw [List.take_succ_cons, List.take_succ_cons, TrsAt]
    exact ⟨v, _, rfl, a, TrsAt.take i k⟩
theorem TrsAt.drop {K : PySem.W.Frag} {H : Hp} : ∀ {b : List Tr} {vs : List V} (i : Nat), TrsAt K H b vs → TrsAt K H (b.drop i) (vs.drop i)
  | b, vs, 0, h => h
  | [], vs, i + 1, h => by
    rw [TrsAt] at h
    subst h
    exact TrsAt.nil
  | t :: r, vs, i + 1, h => by
    rw [TrsAt] at h
    obtain ⟨v, us, rfl, a, k⟩ := h
    exact TrsAt.drop i k
theorem cut_to (xs : List V) (i : Nat) : cutV xs none (some (i : Int)) = xs.take i := by
  unfold cutV
  rw [HT.sIx_none, HT.sIx_nat, List.drop_zero, Nat.sub_zero]
  by_cases h : i ≤ xs.length
  · rw [Nat.min_eq_left h]
  · rw [Nat.min_eq_right (by omega), List.take_length, List.take_of_length_le (by omega)]
theorem cut_mid (xs : List V) (i : Nat) (h : i < xs.length) : cutV xs (some (i : Int)) (some ((i : Int) + 1)) = (xs.drop i).take 1 := by
  unfold cutV
  rw [HT.sIx_nat, show ((i : Int) + 1) = ((i + 1 : Nat) : Int) from rfl, HT.sIx_nat, Nat.min_eq_left (Nat.le_of_lt h), Nat.min_eq_left h]
  congr 1
  omega
theorem cut_whole (xs : List V) (lo hi : Option Int) (h : HT.sIx xs.length 0 lo = 0 ∧ HT.sIx xs.length xs.length hi = xs.length) : cutV xs lo hi = xs := by
  unfold cutV
  rw [h.1, h.2, List.drop_zero, Nat.sub_zero, List.take_length]
theorem body_cut {K : PySem.W.Frag} {H : Hp} {b c : List Tr} {a : Addr} {vs : List V} {lo hi : Option Int} {Q : V → Hp → Prop} (sq : SqT K H a vs) (tr : TrsAt K H b vs) (tc : TrsAt K H c (cutV vs lo hi)) (q : ∀ v' H', Same H H' → BodyAt K H' c v' → Q v' H') : rSlA K (.ref a) lo hi H Q := by
  refine ⟨a, vs, rfl, sq, fun h => ?_, fun _ p np => ?_⟩
  · rw [cut_whole vs lo hi h] at tc
    exact q _ H (Same.refl H) ⟨a, vs, rfl, sq, tc⟩
  · exact q _ _ (same_new np) ⟨p, _, rfl, SqT.of upd_same, TrsAt.kt (Kt.same (same_new np)) _ _ tc⟩
/-! ### whether a register is assigned at all -/
mutual
def Tr.nam (x : Int) : Tr → Bool
  | .op w as => decide (x ∈ asgs w as)
  | .loop k b => decide (0 < k) && nams x b
def nams (x : Int) : List Tr → Bool
  | [] => false
  | t :: r => t.nam x || nams x r
end
theorem la_none (x : Int) : ∀ {E : List Tr}, la x E = none ↔ ∀ t ∈ E, t.asg x = false
  | [] => by
    constructor
    · intro _ t m
      cases m
    · intro _
      rfl
  | t :: r => by
    have ih := la_none x (E := r)
    show (match la x r with | some j => some (j + 1) | none => if t.asg x = true then some 0 else none) = none ↔ _
    cases h : la x r with
    | some j =>
      constructor
      · intro z
        cases z
      · intro z
        have := ih.mpr fun u m => z u (List.mem_cons_of_mem _ m)
        rw [h] at this
        cases this
    | none =>
      have h2 := ih.mp h
      show (if t.asg x = true then some 0 else none) = none ↔ _
      by_cases g : t.asg x = true
      · rw [if_pos g]
        constructor
        · intro z
          cases z
        · intro z
          rw [z t List.mem_cons_self] at g
          cases g
      · rw [if_neg g]
        constructor
        · intro _ u m
          rcases List.mem_cons.mp m with rfl | m
          · exact Bool.eq_false_iff.mpr g
          · exact h2 u m
        · intro _
          rfl
mutual
theorem Tr.nam_iff (x : Int) : ∀ (t : Tr) (n : Nat), t.wf n → (t.nam x = false ↔ ∀ u ∈ t.ex, u.asg x = false)
  | .op w as, n, _ => by
    rw [Tr.nam, Tr.ex]
    constructor
    · intro h u m
      rw [List.mem_singleton.mp m]
      exact h
    · intro h
      exact h _ (List.mem_singleton.mpr rfl)
  | .loop k b, 0, h => by rw [Tr.wf] at h; exact h.elim
  | .loop k b, n + 1, h => by
    rw [Tr.wf] at h
    have ih := nams_iff x b n h.2.2.2
    rw [Tr.nam, Tr.ex]
    constructor
    · intro z u m
      obtain ⟨xs, m1, m2⟩ := List.mem_flatten.mp m
      obtain ⟨m3, m4⟩ := List.mem_replicate.mp m1
      rw [m4] at m2
      rw [decide_eq_true (show 0 < k by omega), Bool.true_and] at z
      exact ih.mp z u m2
    · intro z
      by_cases g : 0 < k
      · rw [decide_eq_true g, Bool.true_and]
        refine ih.mpr fun u m => z u (List.mem_flatten.mpr ⟨exs b, List.mem_replicate.mpr ⟨by omega, rfl⟩, m⟩)
      · rw [decide_eq_false g, Bool.false_and]
theorem nams_iff (x : Int) : ∀ (b : List Tr) (n : Nat), wfs b n → (nams x b = false ↔ ∀ u ∈ exs b, u.asg x = false)
  | [], n, _ => by
    rw [nams, exs]
    constructor
    · intro _ u m
      cases m
    · intro _
      rfl
  | t :: r, n, h => by
    rw [wfs] at h
    have h1 := Tr.nam_iff x t n h.1
    have h2 := nams_iff x r n h.2
    rw [nams, exs, Bool.or_eq_false_iff, h1, h2]
    constructor
    · rintro ⟨a, b⟩ u m
      rcases List.mem_append.mp m with m | m
      · exact a u m
      · exact b u m
    · intro z
      exact ⟨fun u m => z u (List.mem_append.mpr (.inl m)), fun u m => z u (List.mem_append.mpr (.inr m))⟩
end
theorem la_get (x : Int) : ∀ {E : List Tr} {j : Nat}, la x E = some j → ∃ t, E[j]? = some t ∧ t.asg x = true
  | [], j, h => by cases h
  | t :: r, j, h => by
    have h : (match la x r with | some j => some (j + 1) | none => if t.asg x = true then some 0 else none) = some j := h
    cases e : la x r with
    | some i =>
      rw [e] at h
      cases h
      obtain ⟨u, h1, h2⟩ := la_get x e
      exact ⟨u, h1, h2⟩
    | none =>
      rw [e] at h
      have h : (if t.asg x = true then some 0 else none) = some j := h
      by_cases g : t.asg x = true
      · rw [if_pos g] at h
        cases h
        exact ⟨t, rfl, g⟩
      · rw [if_neg g] at h
        cases h
theorem la_ltL (x : Int) {E : List Tr} {j : Nat} (h : la x E = some j) : j < E.length := by
  obtain ⟨t, h1, _⟩ := la_get x h
  exact (List.getElem?_eq_some_iff.mp h1).1
/-- just behind a step that assigns it, it is this step -/
theorem la_at (x : Int) {E : List Tr} {j : Nat} {t : Tr} (e : E[j]? = some t) (a : t.asg x = true) : la x (E.take (j + 1)) = some j := by
  rw [List.take_add_one, e, la_append]
  have : la x (some t).toList = some 0 := by
    show (if t.asg x = true then some 0 else none) = some 0
    rw [if_pos a]
  rw [this]
  have l := (List.getElem?_eq_some_iff.mp e).1
  show some ((E.take j).length + 0) = some j
  rw [List.length_take]
  congr 1
  omega
end Lj
namespace Lj
open PySem PySem.Spec PyProof.Rows L2
mutual
theorem Tr.args_in : ∀ (t : Tr) (n : Nat), t.wf n → t.hasArgs → ∀ u ∈ t.ex, u.hasArgs
  | .op w as, n, _, h => by
    rw [Tr.ex]
    intro u m
    rw [List.mem_singleton.mp m]
    exact h
  | .loop k b, 0, h, _ => by rw [Tr.wf] at h; exact h.elim
  | .loop k b, n + 1, h, a => by
    rw [Tr.wf] at h
    rw [Tr.hasArgs] at a
    rw [Tr.ex]
    intro u m
    obtain ⟨xs, m1, m2⟩ := List.mem_flatten.mp m
    rw [(List.mem_replicate.mp m1).2] at m2
    exact exs_args b n h.2.2.2 a u m2
theorem exs_args : ∀ (b : List Tr) (n : Nat), wfs b n → haveArgs b → ∀ u ∈ exs b, u.hasArgs
  | [], _, _, _ => by rw [exs]; intro u m; cases m
  | t :: r, n, h, a => by
    rw [wfs] at h
    rw [haveArgs] at a
    rw [exs]
    intro u m
    rcases List.mem_append.mp m with m | m
    · exact Tr.args_in t n h.1 a.1 u m
    · exact exs_args r n h.2 a.2 u m
end
theorem args_in {b : List Tr} {n j : Nat} {z : Str} {as : List Int} (a : haveArgs b) (h : wfs b n) (e : (exs b)[j]? = some (.op z as)) : as ≠ [] := by
  have := exs_args b n h a _ (List.mem_of_getElem? e)
  rw [Tr.hasArgs] at this
  exact this
end Lj
set_option Elab.async false
set_option linter.all false
set_option maxRecDepth 100000
set_option maxHeartbeats 1000000
namespace Lj
open PySem PySem.Spec PyProof.Rows L2
/-! ### zip of any two things that can be walked: each a feed -/
/-- an iterator at i with n things to give, as long as its source stands -/
structure Feed (i : Addr) (n : Nat) (f : Nat → Value → Prop) (St : Nat → Heap → Prop) (Src : Heap → Prop) : Prop where
  give : ∀ {prog : Program} {w : World} {A : Around} {E : Value → Shared → Prop} {s : Shared} {k : Nat} {Q : Value → Shared → Prop}, k < n → St k s.heap → Src s.heap → (∀ x h' tk, f k x → St (k + 1) h' → Heap.SameBut i s.heap h' → Q x { s with heap := h', toks := tk }) →
    wpAny (model prog w) A (Builtin.SmallTypes.nextOf (.ref i)) Q E s
  over : ∀ {prog : Program} {w : World} {A : Around} {E : Value → Shared → Prop} {s : Shared} {Q : Value → Shared → Prop}, A.handled = none → St n s.heap → Src s.heap → (∀ h' e tk, Heap.ExtBut i s.heap h' → (∃ o, h'.get? e = some o ∧ o.cls = .type "StopIteration") → E (.ref e) { s with heap := h', toks := tk }) →
    wpAny (model prog w) A (Builtin.SmallTypes.nextOf (.ref i)) Q E s
  stay : ∀ {k : Nat} {h h' : Heap}, St k h → (∀ o, h.get? i = some o → h'.get? i = some o) → St k h'
  obj : ∀ {k : Nat} {h : Heap}, St k h → ∃ o vs, h.get? i = some o ∧ o.data = .fields vs
theorem feed_list {i l : Addr} {its : Array Value} : Feed i its.size (fun k x => its[k]? = some x) (fun k h => h.IsListIter i l k) (fun h => h.IsList l its) where
  give := fun {_ _ _ _ s k _} hk st src q => wpAny_nextOf_list_item st src (Array.getElem?_eq_getElem hk) fun h' a b => q _ h' s.toks (Array.getElem?_eq_getElem hk) a b
  over := fun {_ _ _ _ s _} hh st src q => wpAny_nextOf_list_end hh st src (by simp) fun h' e a b => q h' e s.toks a b
  stay := fun ⟨o, e, r⟩ k => ⟨o, k o e, r⟩
  obj := fun ⟨o, e, _, d⟩ => ⟨o, _, e, d⟩
theorem feed_tup {i l : Addr} {its : Array Value} : Feed i its.size (fun k x => its[k]? = some x) (fun k h => h.IsTupleIter i l k) (fun h => h.IsTuple l its) where
  give := fun {_ _ _ _ s k _} hk st src q => RZ.nextOf_tuple_item st src (Array.getElem?_eq_getElem hk) fun h' a b => q _ h' s.toks (Array.getElem?_eq_getElem hk) a b
  over := fun {_ _ _ _ s _} hh st src q => RZ.nextOf_tuple_end hh st src (by simp) fun h' e a b => q h' e s.toks a b
  stay := fun ⟨o, e, r⟩ k => ⟨o, k o e, r⟩
  obj := fun ⟨o, e, _, d⟩ => ⟨o, _, e, d⟩
/-- the five objects of a zip are apart -/
structure Five (z I O a b : Addr) : Prop where
  Iz : I ≠ z
  Oz : O ≠ z
  az : a ≠ z
  bz : b ≠ z
  IO : I ≠ O
  Ia : I ≠ a
  Ib : I ≠ b
  Oa : O ≠ a
  Ob : O ≠ b
  ab : a ≠ b
/-- what a step of the zip leaves alone -/
def Beside (z O a b : Addr) (h h' : Heap) : Prop := ∀ c o, c ≠ z → c ≠ O → c ≠ a → c ≠ b → h.get? c = some o → h'.get? c = some o
section
variable {prog : Program} {w : World} {A : Around} {E : Value → Shared → Prop} {s : Shared} {z I O a b : Addr} {m n k : Nat} {f g : Nat → Value → Prop} {S1 S2 : Nat → Heap → Prop} {R1 R2 : Heap → Prop} {p q : Value}
theorem zf_give {Q : Value → Shared → Prop} (D : Five z I O a b) (F1 : Feed a m f S1 R1) (F2 : Feed b n g S2 R2) (r1 : ∀ h h', R1 h → Beside z O a b h h' → R1 h') (r2 : ∀ h h', R2 h → Beside z O a b h h' → R2 h')
    (zz : IsZip s.heap z I O .none) (zI : IsPair s.heap I (.ref a) (.ref b)) (zO : IsPair s.heap O p q) (s1 : S1 k s.heap) (s2 : S2 k s.heap) (q1 : R1 s.heap) (q2 : R2 s.heap) (km : k < m) (kn : k < n)
    (hQ : ∀ x y h' tk, f k x → g k y → IsZip h' z I O (rawInt s.heap.objs.size) → IsPair h' O x y → S1 (k + 1) h' → S2 (k + 1) h' → IsPair h' s.heap.objs.size x y → h'.objs.size = s.heap.objs.size + 1 → Beside z O a b s.heap h' → Q (.ref s.heap.objs.size) { s with heap := h', toks := tk }) :
    wpAny (model prog w) A (Builtin.«zip.__next__» ⟨[.ref z], []⟩) (fun fin s' => ∃ v, fin = .done (.ret v) ∧ Q v s') E s := by
  show wpAny _ _ (field (.ref z) 2 >>= _) _ _ _; refine wpAny_bind (wpAny_field zz rfl (x := .bool false) rfl ?_)
  show wpAny _ _ (field (.ref z) 3 >>= _) _ _ _; refine wpAny_bind (wpAny_field zz rfl (x := .ref I) rfl ?_)
  refine wpAny_bind (wpAny_seqItems zI rfl ?_)
  show wpAny _ _ (Builtin.SmallTypes.ownedTupleIsFree (.ref z) >>= _) _ _ _; refine wpAny_bind ?_
  unfold Builtin.SmallTypes.ownedTupleIsFree; refine wpAny_bind (wpAny_field zz rfl (x := .none) rfl (wpAny_pure ?_))
  simp only [if_true]; refine wpAny_bind (wpAny_rule (wpAny_bind (wpAny_field zz rfl (x := .ref O) rfl ?_)))
  refine wpAny_bind (wpAny_setField_rec zz (by simp) fun h1 z1 k1 => ?_)
  replace z1 : IsZip h1 z I O .ellipsis := z1
  refine wpAny_bind ?_
  simp only [List.zipIdx_cons, List.zipIdx_nil, List.forIn_cons, List.forIn_nil]; refine wpAny_bind (wpAny_bind (wpAny_onRaise ?_))
  show wpAny _ _ (Builtin.SmallTypes.nextOf (.ref a) >>= _) _ _ _
  have e1 : ∀ c o, c ≠ z → s.heap.get? c = some o → h1.get? c = some o := fun c o n e => k1.extBut _ _ n e
  refine wpAny_bind (F1.give km (F1.stay s1 fun o => e1 a o D.az) (r1 _ _ q1 fun c o n1 _ _ _ => e1 c o n1) fun x h2 t2 fx s12 k2 => wpAny_pure ?_)
  have e2 : ∀ c o, c ≠ a → h1.get? c = some o → h2.get? c = some o := fun c o n e => k2.extBut _ _ n e
  have O2 : IsPair h2 O p q := e2 _ _ D.Oa (e1 _ _ D.Oz zO)
  refine wpAny_bind (wpAny_seqItems O2 rfl (wpAny_bind (wpAny_updateSeq_pair O2 fun h3 O3 k3 => ?_)))
  replace O3 : IsPair h3 O x q := O3
  have e3 : ∀ c o, c ≠ O → h2.get? c = some o → h3.get? c = some o := fun c o n e => k3.extBut _ _ n e
  refine wpAny_bind (wpAny_letGo (wpAny_pure (wpAny_bind (wpAny_bind (wpAny_onRaise ?_)))))
  show wpAny _ _ (Builtin.SmallTypes.nextOf (.ref b) >>= _) _ _ _
  refine wpAny_bind (F2.give kn (F2.stay s2 fun o e => e3 b o D.Ob.symm (e2 b o D.ab.symm (e1 b o D.bz e))) (r2 _ _ q2 fun c o n1 n2 n3 _ e => e3 c o n2 (e2 c o n3 (e1 c o n1 e))) fun y h4 t4 gy s24 k4 => wpAny_pure ?_)
  have e4 : ∀ c o, c ≠ b → h3.get? c = some o → h4.get? c = some o := fun c o n e => k4.extBut _ _ n e
  have O4 : IsPair h4 O x q := e4 _ _ D.Ob O3
  refine wpAny_bind (wpAny_seqItems O4 rfl (wpAny_bind (wpAny_updateSeq_pair O4 fun h5 O5 k5 => ?_)))
  replace O5 : IsPair h5 O x y := O5
  have e5 : ∀ c o, c ≠ O → h4.get? c = some o → h5.get? c = some o := fun c o n e => k5.extBut _ _ n e
  refine wpAny_bind (wpAny_letGo (wpAny_pure (wpAny_pure (wpAny_bind (wpAny_seqItems O5 rfl (wpAny_bind (wpAny_newTuple ?_)))))))
  have sz : h5.objs.size = s.heap.objs.size := by rw [k5.1, k4.1, k3.1, k2.1, k1.1]
  have z5 : IsZip h5 z I O .ellipsis := e5 _ _ D.Oz.symm (e4 _ _ D.bz.symm (e3 _ _ D.Oz.symm (e2 _ _ D.az.symm z1)))
  have b5 : Beside z O a b s.heap h5 := fun c o n1 n2 n3 n4 e => e5 c o n2 (e4 c o n4 (e3 c o n2 (e2 c o n3 (e1 c o n1 e))))
  have s15 : S1 (k + 1) h5 := F1.stay s12 fun o e => e5 a o D.Oa.symm (e4 a o D.ab (e3 a o D.Oa.symm e))
  have s25 : S2 (k + 1) h5 := F2.stay s24 fun o e => e5 b o D.Ob.symm e
  have zl : z < h5.objs.size := Heap.lt_size z5
  show wpAny _ _ (Builtin.SmallTypes.ownedTupleHandOut (.ref z) (.ref h5.objs.size) >>= _) _ _ _
  refine wpAny_bind ?_; unfold Builtin.SmallTypes.ownedTupleHandOut
  refine wpAny_bind (wpAny_setField_rec (show IsZip (h5.push { cls := .type "tuple", data := .seq #[x, y] }) z I O .ellipsis from Heap.get?_push_of_some _ z5) (by simp) fun h7 z7 k7 => ?_)
  replace z7 : IsZip h7 z I O (rawInt h5.objs.size) := z7
  refine wpAny_setField_rec z7 (by simp) fun h8 z8 k8 => ?_
  replace z8 : IsZip h8 z I O (rawInt h5.objs.size) := z8
  have e8 : ∀ c o, c ≠ z → h5.get? c = some o → h8.get? c = some o := fun c o n e => k8.extBut _ _ n (k7.extBut _ _ n (Heap.get?_push_of_some _ e))
  have T8 : IsPair h8 h5.objs.size x y := k8.extBut _ _ (Nat.ne_of_gt zl) (k7.extBut _ _ (Nat.ne_of_gt zl) (Heap.get?_push_size _ rfl))
  have y8 : h8.objs.size = h5.objs.size + 1 := by rw [k8.1, k7.1, Heap.size_push]
  rw [sz] at z8 T8 y8
  refine wpAny_pure ⟨_, rfl, ?_⟩
  show Q (.ref h5.objs.size) _
  rw [sz]
  exact hQ x y h8 t4 fx gy z8 (e8 _ _ D.Oz O5) (F1.stay s15 fun o => e8 a o D.az) (F2.stay s25 fun o => e8 b o D.bz) T8 y8 fun c o n1 n2 n3 n4 e => e8 c o n1 (b5 c o n1 n2 n3 n4 e)
theorem zf_over {Q : Fin → Shared → Prop} (hh : A.handled = none) (D : Five z I O a b) (F1 : Feed a m f S1 R1) (F2 : Feed b n g S2 R2) (r1 : ∀ h h', R1 h → Beside z O a b h h' → R1 h') (r2 : ∀ h h', R2 h → Beside z O a b h h' → R2 h')
    (zz : IsZip s.heap z I O .none) (zI : IsPair s.heap I (.ref a) (.ref b)) (zO : IsPair s.heap O p q) (s1 : S1 k s.heap) (s2 : S2 k s.heap) (q1 : R1 s.heap) (q2 : R2 s.heap) (he : k = m ∨ (k < m ∧ k = n))
    (hE : ∀ h' e tk, Beside z O a b s.heap h' → (∃ o, h'.get? e = some o ∧ o.cls = .type "StopIteration") → E (.ref e) { s with heap := h', toks := tk }) :
    wpAny (model prog w) A (Builtin.«zip.__next__» ⟨[.ref z], []⟩) Q E s := by
  show wpAny _ _ (field (.ref z) 2 >>= _) _ _ _; refine wpAny_bind (wpAny_field zz rfl (x := .bool false) rfl ?_)
  show wpAny _ _ (field (.ref z) 3 >>= _) _ _ _; refine wpAny_bind (wpAny_field zz rfl (x := .ref I) rfl ?_)
  refine wpAny_bind (wpAny_seqItems zI rfl ?_)
  show wpAny _ _ (Builtin.SmallTypes.ownedTupleIsFree (.ref z) >>= _) _ _ _; refine wpAny_bind ?_
  unfold Builtin.SmallTypes.ownedTupleIsFree; refine wpAny_bind (wpAny_field zz rfl (x := .none) rfl (wpAny_pure ?_))
  simp only [if_true]; refine wpAny_bind (wpAny_rule (wpAny_bind (wpAny_field zz rfl (x := .ref O) rfl ?_)))
  refine wpAny_bind (wpAny_setField_rec zz (by simp) fun h1 z1 k1 => ?_)
  replace z1 : IsZip h1 z I O .ellipsis := z1
  refine wpAny_bind ?_
  simp only [List.zipIdx_cons, List.zipIdx_nil, List.forIn_cons, List.forIn_nil]; refine wpAny_bind (wpAny_bind (wpAny_onRaise ?_))
  show wpAny _ _ (Builtin.SmallTypes.nextOf (.ref a) >>= _) _ _ _
  have e1 : ∀ c o, c ≠ z → s.heap.get? c = some o → h1.get? c = some o := fun c o n e => k1.extBut _ _ n e
  have s11 := F1.stay s1 fun o => e1 a o D.az
  have q11 := r1 _ _ q1 fun c o n1 _ _ _ => e1 c o n1
  have fin : ∀ {h2 : Heap} {t2 : Nat} {e : Addr}, IsZip h2 z I O .ellipsis → Beside z O a b s.heap h2 → (∃ o, h2.get? e = some o ∧ o.cls = .type "StopIteration") → wpAny (model prog w) A (setField (.ref z) 0 .none) (fun _ s' => E (.ref e) s') E { s with heap := h2, toks := t2 } := fun {h2 t2 e} z2 b2 ⟨oe, g, c⟩ => by
    have ne : e ≠ z := fun y => by subst y; rw [z2] at g; cases g; simp at c
    exact wpAny_setField_rec z2 (by simp) fun h3 _ k3 => hE h3 e t2 (fun c o n1 n2 n3 n4 y => k3.extBut _ _ n1 (b2 c o n1 n2 n3 n4 y)) ⟨oe, k3.extBut _ _ ne g, c⟩
  rcases he with rfl | ⟨km, rfl⟩
  · refine wpAny_bind (F1.over hh s11 q11 fun h2 e t2 k2 ex => ?_)
    exact fin (k2 _ _ D.az.symm z1) (fun c o n1 _ n3 _ y => k2 _ _ n3 (e1 c o n1 y)) ex
  · refine wpAny_bind (F1.give km s11 q11 fun x h2 t2 fx s12 k2 => wpAny_pure ?_)
    have e2 : ∀ c o, c ≠ a → h1.get? c = some o → h2.get? c = some o := fun c o n e => k2.extBut _ _ n e
    have O2 : IsPair h2 O p q := e2 _ _ D.Oa (e1 _ _ D.Oz zO)
    refine wpAny_bind (wpAny_seqItems O2 rfl (wpAny_bind (wpAny_updateSeq_pair O2 fun h3 O3 k3 => ?_)))
    have e3 : ∀ c o, c ≠ O → h2.get? c = some o → h3.get? c = some o := fun c o n e => k3.extBut _ _ n e
    refine wpAny_bind (wpAny_letGo (wpAny_pure (wpAny_bind (wpAny_bind (wpAny_onRaise ?_)))))
    show wpAny _ _ (Builtin.SmallTypes.nextOf (.ref b) >>= _) _ _ _
    refine wpAny_bind (F2.over hh (F2.stay s2 fun o e => e3 b o D.Ob.symm (e2 b o D.ab.symm (e1 b o D.bz e))) (r2 _ _ q2 fun c o n1 n2 n3 _ e => e3 c o n2 (e2 c o n3 (e1 c o n1 e))) fun h4 e t4 k4 ex => ?_)
    exact fin (k4 _ _ D.bz.symm (e3 _ _ D.Oz.symm (e2 _ _ D.az.symm z1))) (fun c o n1 n2 n3 n4 y => k4 _ _ n4 (e3 c o n2 (e2 c o n3 (e1 c o n1 y)))) ex
theorem zf_next {Q : Option Value → Shared → Prop} (D : Five z I O a b) (F1 : Feed a m f S1 R1) (F2 : Feed b n g S2 R2) (r1 : ∀ h h', R1 h → Beside z O a b h h' → R1 h') (r2 : ∀ h h', R2 h → Beside z O a b h h' → R2 h')
    (zz : IsZip s.heap z I O .none) (zI : IsPair s.heap I (.ref a) (.ref b)) (zO : IsPair s.heap O p q) (s1 : S1 k s.heap) (s2 : S2 k s.heap) (q1 : R1 s.heap) (q2 : R2 s.heap) (km : k < m) (kn : k < n)
    (hQ : ∀ x y h' tk, f k x → g k y → IsZip h' z I O (rawInt s.heap.objs.size) → IsPair h' O x y → S1 (k + 1) h' → S2 (k + 1) h' → IsPair h' s.heap.objs.size x y → h'.objs.size = s.heap.objs.size + 1 → Beside z O a b s.heap h' → Q (some (.ref s.heap.objs.size)) { s with heap := h', toks := tk }) :
    wpAny (model prog w) A (pyNext (.ref z)) Q E s := by
  have ty : s.TypeIs (.ref z) "zip" := ⟨_, zz, rfl⟩
  unfold pyNext; refine wpAny_bind (wpAny_attempt (wpAny_callSpecial?_slot (name := Str.ofString "__next__") ty F.slot_zip_next (wpAny_call_entry F.slot_zip_next ty F.entry_zip_next (zf_give D F1 F2 r1 r2 zz zI zO s1 s2 q1 q2 km kn fun x y h' tk b1 b2 b3 b4 b5 b6 b7 b8 b9 => ?_) (F.args_zip_next_1 _))))
  exact wpAny_pure (hQ x y h' tk b1 b2 b3 b4 b5 b6 b7 b8 b9)
theorem zf_done {Q : Option Value → Shared → Prop} (hh : A.handled = none) (D : Five z I O a b) (F1 : Feed a m f S1 R1) (F2 : Feed b n g S2 R2) (r1 : ∀ h h', R1 h → Beside z O a b h h' → R1 h') (r2 : ∀ h h', R2 h → Beside z O a b h h' → R2 h')
    (zz : IsZip s.heap z I O .none) (zI : IsPair s.heap I (.ref a) (.ref b)) (zO : IsPair s.heap O p q) (s1 : S1 k s.heap) (s2 : S2 k s.heap) (q1 : R1 s.heap) (q2 : R2 s.heap) (he : k = m ∨ (k < m ∧ k = n))
    (hQ : ∀ h' tk, Beside z O a b s.heap h' → Q none { s with heap := h', toks := tk }) : wpAny (model prog w) A (pyNext (.ref z)) Q E s := by
  have ty : s.TypeIs (.ref z) "zip" := ⟨_, zz, rfl⟩
  unfold pyNext; refine wpAny_bind (wpAny_attempt (wpAny_callSpecial?_slot (name := Str.ofString "__next__") ty F.slot_zip_next (wpAny_call_entry F.slot_zip_next ty F.entry_zip_next (zf_over hh D F1 F2 r1 r2 zz zI zO s1 s2 q1 q2 he fun h' e tk k ⟨o, g, c⟩ => ?_) (F.args_zip_next_1 _))))
  exact wpAny_bind (wpAny_isInstance (T := "StopIteration") (b := true) ⟨o, g, c⟩ isSubtype_stop (wpAny_pure (hQ _ _ k)))
end
end Lj
set_option Elab.async false
set_option linter.all false
set_option maxRecDepth 100000
set_option maxHeartbeats 1000000
namespace Lj
open PySem PySem.Spec PyProof.Rows L2
/-- something that can be walked: St tells its iterator, G that it stands, ls where, xs what it gives -/
structure Sr (P : Program) (w : World) (K : PySem.W.Frag) (St : Addr → Nat → Heap → Prop) (G : Hp → Prop) (ls : List Addr) (xs : List V) : Prop where
  feed : ∀ {X : Cx} {pins : List (Addr × Obj)} {σ : L2.St} {H : Hp} {s : Shared}, X.prog = P → X.w = w → X.K = K → Inv X pins σ H s → G H → ∀ i : Addr, ∃ (f : Nat → Value → Prop) (Src : Heap → Prop), Feed i xs.length f (St i) Src ∧ Src s.heap ∧
    (∀ h h', Src h → (∀ l ∈ ls, ∀ o, h.get? l = some o → h'.get? l = some o) → Src h') ∧ ∀ k u, f k u → ∃ x, xs[k]? = some x ∧ RelV x u
  stay : ∀ {i : Addr} {k : Nat} {h h' : Heap}, St i k h → (∀ o, h.get? i = some o → h'.get? i = some o) → St i k h'
  obj : ∀ {i : Addr} {k : Nat} {h : Heap}, St i k h → ∃ o vs, h.get? i = some o ∧ o.data = .fields vs
theorem sr_list {P : Program} {w : World} {K : PySem.W.Frag} {a : Addr} {xs : List V} : Sr P w K (fun i k h => h.IsListIter i a k) (fun H => SqL K H a xs) [a] xs where
  feed := fun {X pins σ H s} e1 e2 e3 I g i => by
    subst e3
    obtain ⟨its, rv, pl, _⟩ := I.list g
    refine ⟨fun k x => its.toArray[k]? = some x, fun h => h.IsList a its.toArray, ?_, pl.isList, fun h h' q k => ?_, fun k u e => ?_⟩
    · have z := feed_list (i := i) (l := a) (its := its.toArray)
      rw [List.size_toArray, ← rv.length] at z
      exact z
    · obtain ⟨o, ho, r⟩ := q
      exact ⟨o, k a List.mem_cons_self o ho, r⟩
    · have e : its.toArray[k]? = some u := e
      rw [List.getElem?_toArray] at e
      have hk : k < xs.length := by rw [rv.length]; exact (List.getElem?_eq_some_iff.mp e).1
      obtain ⟨u', hu, ru⟩ := rv.get (List.getElem?_eq_getElem hk)
      rw [e] at hu
      cases hu
      exact ⟨_, List.getElem?_eq_getElem hk, ru⟩
  stay := fun ⟨o, e, r⟩ k => ⟨o, k o e, r⟩
  obj := fun ⟨o, e, _, d⟩ => ⟨o, _, e, d⟩
theorem sr_tup {P : Program} {w : World} {K : PySem.W.Frag} {a : Addr} {xs : List V} : Sr P w K (fun i k h => h.IsTupleIter i a k) (fun H => SqT K H a xs) [a] xs where
  feed := fun {X pins σ H s} e1 e2 e3 I g i => by
    subst e3
    obtain ⟨its, rv, pl, _⟩ := I.tuple g
    refine ⟨fun k x => its.toArray[k]? = some x, fun h => h.IsTuple a its.toArray, ?_, pl, fun h h' q k => ?_, fun k u e => ?_⟩
    · have z := feed_tup (i := i) (l := a) (its := its.toArray)
      rw [List.size_toArray, ← rv.length] at z
      exact z
    · obtain ⟨o, ho, r⟩ := q
      exact ⟨o, k a List.mem_cons_self o ho, r⟩
    · have e : its.toArray[k]? = some u := e
      rw [List.getElem?_toArray] at e
      have hk : k < xs.length := by rw [rv.length]; exact (List.getElem?_eq_some_iff.mp e).1
      obtain ⟨u', hu, ru⟩ := rv.get (List.getElem?_eq_getElem hk)
      rw [e] at hu
      cases hu
      exact ⟨_, List.getElem?_eq_getElem hk, ru⟩
  stay := fun ⟨o, e, r⟩ k => ⟨o, k o e, r⟩
  obj := fun ⟨o, e, _, d⟩ => ⟨o, _, e, d⟩
/-- pairs of the things of two sources, as long as both stand -/
def ItF (n : Nat) (G : Hp → Prop) (xs ys : List V) : It :=
  ⟨fun i H => i < n ∧ G H, fun i H v H' => ∃ T x y, v = .ref T ∧ H T = none ∧ H' = upd H T (.tup [x, y]) ∧ xs[i]? = some x ∧ ys[i]? = some y, fun i H => i = n ∧ G H⟩
theorem walk_F {n : Nat} {G : Hp → Prop} {xs ys : List V} : Walk (ItF n G xs ys) n G (YPair (fun i => xs[i]?) (fun i => ys[i]?)) :=
  ⟨fun i _ hi q => ⟨hi, q⟩, fun _ q => ⟨rfl, q⟩, fun i H v H' _ q y => y⟩
def zipTn (S1 S2 : Addr → Nat → Heap → Prop) (z I O a b : Addr) : Nat → Heap → Prop := fun i h => IsZip h z I O .none ∧ IsPair h I (.ref a) (.ref b) ∧ (∃ x y, IsPair h O x y) ∧ S1 a i h ∧ S2 b i h
theorem turn_F {P : Program} {w : World} {K : PySem.W.Frag} {elts : List Expr} {kk : Nat} {tpos : Pos} {z I O a b : Addr} {S1 S2 : Addr → Nat → Heap → Prop} {G1 G2 : Hp → Prop} {l1 l2 : List Addr} {xs ys : List V} (D : Five z I O a b) (F1 : Sr P w K S1 G1 l1 xs) (F2 : Sr P w K S2 G2 l2 ys)
    (n1 : ∀ l ∈ l1, l ≠ z ∧ l ≠ O ∧ l ≠ a ∧ l ≠ b) (n2 : ∀ l ∈ l2, l ≠ z ∧ l ≠ O ∧ l ≠ a ∧ l ≠ b) : Turn P w K (.Tuple elts kk tpos) (ItF (min xs.length ys.length) (fun H => G1 H ∧ G2 H) xs ys) [z, I, O, a, b] z (zipTn S1 S2 z I O a b) where
  mem := List.mem_cons_self
  obj := fun i h st c hc => by
    obtain ⟨q1, q2, ⟨x, y, q3⟩, q4, q5⟩ := st
    obtain ⟨o4, v4, e4, d4⟩ := F1.obj q4
    obtain ⟨o5, v5, e5, d5⟩ := F2.obj q5
    simp only [List.mem_cons, List.not_mem_nil, or_false] at hc
    rcases hc with rfl | rfl | rfl | rfl | rfl
    · exact ⟨_, q1, fun v e => nomatch e⟩
    · exact ⟨_, q2, fun v e => nomatch e⟩
    · exact ⟨_, q3, fun v e => nomatch e⟩
    · exact ⟨o4, e4, fun v e => by rw [d4] at e; cases e⟩
    · exact ⟨o5, e5, fun v e => by rw [d5] at e; cases e⟩
  keep := fun i h h' st k => by
    obtain ⟨q1, q2, ⟨x, y, q3⟩, q4, q5⟩ := st
    exact ⟨k z (by simp) _ q1, k I (by simp) _ q2, ⟨x, y, k O (by simp) _ q3⟩, F1.stay q4 fun o e => k a (by simp) o e, F2.stay q5 fun o e => k b (by simp) o e⟩
  item := by
    intro X hP hw hK hc i pins s σ H E Iv hf st hg
    obtain ⟨q1, q2, ⟨x0, y0, q3⟩, q4, q5⟩ := st
    obtain ⟨hi, g1, g2⟩ := hg
    obtain ⟨f, S, fd, sr, ss, fr⟩ := F1.feed hP hw hK Iv g1 a
    obtain ⟨g, S', fd', sr', ss', fr'⟩ := F2.feed hP hw hK Iv g2 b
    subst hP hw hK
    have zl : z < s.heap.objs.size := Heap.lt_size q1
    have st1 : ∀ h h', S h → Beside z O a b h h' → S h' := fun h h' q k => ss h h' q fun l m o e => k l o (n1 l m).1 (n1 l m).2.1 (n1 l m).2.2.1 (n1 l m).2.2.2 e
    have st2 : ∀ h h', S' h → Beside z O a b h h' → S' h' := fun h h' q k => ss' h h' q fun l m o e => k l o (n2 l m).1 (n2 l m).2.1 (n2 l m).2.2.1 (n2 l m).2.2.2 e
    refine zf_next D fd fd' st1 st2 q1 q2 q3 q4 q5 sr sr' (by omega) (by omega) fun u v h' tk fu gv z' O' s1' s2' T sz bes => ?_
    obtain ⟨x, hx, ru⟩ := fr i u fu
    obtain ⟨y, hy, rv⟩ := fr' i v gv
    refine ⟨_, rfl, wpAny_letOwnedTupleGo_zip (s := { s with heap := h', toks := tk }) z' fun h2 z2 sb => ?_⟩
    have T2 : h2.get? s.heap.objs.size = some { cls := .type "tuple", data := .seq #[u, v] } := (sb.2 _ (Nat.ne_of_gt zl)).trans T
    have new : ObjOk X.prog X.w (upd H s.heap.objs.size (.tup [x, y])) h2 s.heap.objs.size (.tup [x, y]) := ⟨by show 2 ≤ sizeLine; decide, [u, v], .cons ru (.cons rv .nil), ⟨_, T2, rfl, _, rfl⟩⟩
    have I1 : Inv X pins σ (upd H s.heap.objs.size (.tup [x, y])) { s with heap := h2, toks := tk } := Iv.turnedNew (t' := tk) (ch := [z, I, O, a, b]) (fun c o hb e => by
      simp only [List.mem_cons, List.not_mem_nil, or_false, not_or] at hb
      exact (sb.2 c hb.1).trans (bes c o hb.1 hb.2.2.1 hb.2.2.2.1 hb.2.2.2.2 e)) hf (Nat.le_refl _) new
    refine ⟨.ref s.heap.objs.size, _, I1, rfl, ⟨_, x, y, rfl, Iv.hok.fresh (Nat.le_refl _), rfl, hx, hy⟩, ⟨z2, ?_, ⟨u, v, ?_⟩, ?_, ?_⟩, fun c hcm => ?_⟩
    · exact (sb.2 _ D.Iz).trans (bes _ _ D.Iz D.IO D.Ia D.Ib q2)
    · exact (sb.2 _ D.Oz).trans O'
    · exact F1.stay s1' fun o e => (sb.2 _ D.az).trans e
    · exact F2.stay s2' fun o e => (sb.2 _ D.bz).trans e
    · have lt : c < s.heap.objs.size := by
        obtain ⟨o4, _, e4, _⟩ := F1.obj q4
        obtain ⟨o5, _, e5, _⟩ := F2.obj q5
        simp only [List.mem_cons, List.not_mem_nil, or_false] at hcm
        rcases hcm with rfl | rfl | rfl | rfl | rfl
        · exact zl
        · exact Heap.lt_size q2
        · exact Heap.lt_size q3
        · exact Heap.lt_size e4
        · exact Heap.lt_size e5
      rw [upd_ne (Nat.ne_of_lt lt)]
      exact (hf c hcm).1
  done := by
    intro X hP hw hK hc i pins s σ H E Iv hf st hg
    obtain ⟨q1, q2, ⟨x0, y0, q3⟩, q4, q5⟩ := st
    obtain ⟨hi, g1, g2⟩ := hg
    obtain ⟨f, S, fd, sr, ss, fr⟩ := F1.feed hP hw hK Iv g1 a
    obtain ⟨g, S', fd', sr', ss', fr'⟩ := F2.feed hP hw hK Iv g2 b
    subst hP hw hK
    have st1 : ∀ h h', S h → Beside z O a b h h' → S h' := fun h h' q k => ss h h' q fun l m o e => k l o (n1 l m).1 (n1 l m).2.1 (n1 l m).2.2.1 (n1 l m).2.2.2 e
    have st2 : ∀ h h', S' h → Beside z O a b h h' → S' h' := fun h h' q k => ss' h h' q fun l m o e => k l o (n2 l m).1 (n2 l m).2.1 (n2 l m).2.2.1 (n2 l m).2.2.2 e
    refine zf_done (Iv.ok.hd hc) D fd fd' st1 st2 q1 q2 q3 q4 q5 sr sr' (by omega) fun h' tk bes => ⟨rfl, Iv.turnedL (t' := tk) (ch := [z, I, O, a, b]) (fun c o hb e => ?_) hf⟩
    simp only [List.mem_cons, List.not_mem_nil, or_false, not_or] at hb
    exact bes c o hb.1 hb.2.2.1 hb.2.2.2.1 hb.2.2.2.2 e
  self := fun A i s Q E st h => wpAny_pyIter_zip st.1 h
/-! ### zip(list, tuple): its making -/
abbrev zh (h : Heap) (p q : Obj) (a b : Nat) : Heap := (((((h.push p).push q).push { cls := .type "tuple", data := .seq #[.ref a, .ref b] }).push { cls := .type "tuple", data := .seq #[.none, .none] })).push { cls := .type "zip", data := .fields #[.none, .bool false, .bool false, .ref (a + 2), .ref (a + 3)] }
abbrev oLi (l : Addr) : Obj := { cls := .type "list_iterator", data := .fields #[.ref l, .int 0 0] }
abbrev oTi (l : Addr) : Obj := { cls := .type "tuple_iterator", data := .fields #[.ref l, .int 0 0] }
theorem five_new (n : Nat) : Five (n + 4) (n + 2) (n + 3) n (n + 1) := by
  have z : ∀ i j : Nat, i ≠ j → n + i ≠ n + j := fun i j h e => h (Nat.add_left_cancel e)
  exact ⟨z 2 4 (by decide), z 3 4 (by decide), z 0 4 (by decide), z 1 4 (by decide), z 2 3 (by decide), z 2 0 (by decide), z 2 1 (by decide), z 3 0 (by decide), z 3 1 (by decide), z 0 1 (by decide)⟩
theorem new_LT (l1 l2 : Addr) (xs ys : Array Value) : Meets (Builtin.«zip.__new__» ⟨[.type "zip", .ref l1, .ref l2], []⟩) (fun _ R s => s.heap.IsList l1 xs ∧ s.heap.IsTuple l2 ys ∧
      R (.ok (.ret (.ref (s.heap.objs.size + 4)))) { s with heap := zh s.heap (oLi l1) (oTi l2) s.heap.objs.size (s.heap.objs.size + 1) }) :=
  .of_wp fun prog w A R s h => by
    obtain ⟨hp, g, d, tk, os⟩ := s; obtain ⟨t1, t2, h⟩ := h
    have sub := sub_zip
    have T1 : Heap.IsList (Shared.heap ⟨hp, g, d, tk, os⟩) l1 xs := t1
    have T2 : Heap.IsTuple (Shared.heap ⟨hp.push { cls := .type "list_iterator", data := .fields #[.ref l1, .int 0 0] }, g, d, tk, os⟩) l2 ys := Heap.IsTuple.push t2 _
    wp_walk using wpAny_pyIter_list T1, wpAny_pyIter_tuple T2
    refine ⟨_, rfl, ?_⟩
    simp only [Heap.size_push]
    exact h
theorem zh_sz (h : Heap) (p q : Obj) (hp : p.isFreed = false := by rfl) (hq : q.isFreed = false := by rfl) : (zh h p q h.objs.size (h.objs.size + 1)).get? h.objs.size = some p ∧ (zh h p q h.objs.size (h.objs.size + 1)).get? (h.objs.size + 1) = some q ∧
    IsPair (zh h p q h.objs.size (h.objs.size + 1)) (h.objs.size + 2) (.ref h.objs.size) (.ref (h.objs.size + 1)) ∧ IsPair (zh h p q h.objs.size (h.objs.size + 1)) (h.objs.size + 3) .none .none ∧ IsZip (zh h p q h.objs.size (h.objs.size + 1)) (h.objs.size + 4) (h.objs.size + 2) (h.objs.size + 3) .none := by
  have z1 : (h.push p).objs.size = h.objs.size + 1 := Heap.size_push ..
  have z2 : ((h.push p).push q).objs.size = h.objs.size + 2 := by rw [Heap.size_push, z1]
  have z3 : (((h.push p).push q).push { cls := .type "tuple", data := .seq #[.ref h.objs.size, .ref (h.objs.size + 1)] }).objs.size = h.objs.size + 3 := by rw [Heap.size_push, z2]
  have z4 : ((((h.push p).push q).push { cls := .type "tuple", data := .seq #[.ref h.objs.size, .ref (h.objs.size + 1)] }).push { cls := .type "tuple", data := .seq #[.none, .none] }).objs.size = h.objs.size + 4 := by rw [Heap.size_push, z3]
  have up : ∀ {h : Heap} {c : Addr} {o : Obj} (x : Obj), h.get? c = some o → (h.push x).get? c = some o := fun x e => Heap.get?_push_of_some x e
  refine ⟨up _ (up _ (up _ (up _ (Heap.get?_push_size h hp)))), ?_, ?_, ?_, ?_⟩
  · have e := Heap.get?_push_size (h.push p) hq
    rw [z1] at e
    exact up _ (up _ (up _ e))
  · have e := Heap.get?_push_size ((h.push p).push q) (o := { cls := .type "tuple", data := .seq #[.ref h.objs.size, .ref (h.objs.size + 1)] }) rfl
    rw [z2] at e
    exact up _ (up _ e)
  · have e := Heap.get?_push_size (((h.push p).push q).push { cls := .type "tuple", data := .seq #[.ref h.objs.size, .ref (h.objs.size + 1)] }) (o := { cls := .type "tuple", data := .seq #[.none, .none] }) rfl
    rw [z3] at e
    exact up _ e
  · have e := Heap.get?_push_size ((((h.push p).push q).push { cls := .type "tuple", data := .seq #[.ref h.objs.size, .ref (h.objs.size + 1)] }).push { cls := .type "tuple", data := .seq #[.none, .none] }) (o := { cls := .type "zip", data := .fields #[.none, .bool false, .bool false, .ref (h.objs.size + 2), .ref (h.objs.size + 3)] }) rfl
    rw [z4] at e
    exact e
def iZipLT (K : PySem.W.Frag) (ta : TA) : TI := fun σ H R => ta σ H fun vs H1 => ∃ (a b : Addr) (xs ys : List V), vs = [.ref a, .ref b] ∧ SqL K H1 a xs ∧ SqT K H1 b ys ∧ R (ItF (min xs.length ys.length) (fun H => SqL K H a xs ∧ SqT K H b ys) xs ys) H1
/-- zip(list, tuple) -/
theorem pi_zipLT {X : Cx} {e e2 : Expr} {ta : TA} {p pos tpos : Pos} {elts : List Expr} {kk : Nat} (hg : Gl X "zip") (hm : X.mg "zip" = none) (ha : PA X [e, e2] ta)
    (hs : starEach [e, e2] X.env = (false, eval e X.env) :: starEach [e2] X.env := by rfl) (hpl : (backTo pos (starEach [e2] X.env)).any (·.1) = false := by rfl) :
    PI X (.Tuple elts kk tpos) (.Call (.Name "zip" p) [e, e2] [] pos) (iZipLT X.K ta) := by
  refine ⟨fun pins s σ H R I h => Call_ (ld_blt I hg hm PyProof.Rows.boot_zip (PyProof.Rows.callWith_type1 (thn (ha.run pos pins s σ H _ I h) fun us s1 ⟨vs, H1, I1, r1, a, b, xs, ys, ex, g1, g2, q⟩ => ?_) hs hpl))⟩
  subst ex
  obtain ⟨u1, u2, rfl, ra, rb⟩ := r1.two
  cases ra
  cases rb
  obtain ⟨its, rv, p1, _⟩ := I1.list g1
  obtain ⟨its2, rv2, p2, _⟩ := I1.tuple g2
  have al : a < s1.heap.objs.size := p1.lt
  have bl : b < s1.heap.objs.size := by
    obtain ⟨o, ho, _⟩ := p2
    exact Heap.lt_size ho
  refine callType_new F.called_zip (by decide) (F.typeCall_zip_2 _ _) (F.newCall_zip_2 _ _) (fun obj => F.args_object_init_3 obj _ _) F.entry_zip_new (new_LT a b its.toArray its2.toArray) ⟨p1.isList, p2, ?_⟩
  obtain ⟨f1, f2, f3, f4, f5⟩ := zh_sz s1.heap (oLi a) (oTi b)
  have keep : ∀ c o, s1.heap.get? c = some o → (zh s1.heap (oLi a) (oTi b) s1.heap.objs.size (s1.heap.objs.size + 1)).get? c = some o := fun c o e => Heap.get?_push_of_some _ (Heap.get?_push_of_some _ (Heap.get?_push_of_some _ (Heap.get?_push_of_some _ (Heap.get?_push_of_some _ e))))
  refine ⟨⟨_, f5, rfl⟩, wpAny_pyIter_zip f5 ?_⟩
  have I2 : Inv X pins σ H1 { s1 with heap := zh s1.heap (oLi a) (oTi b) s1.heap.objs.size (s1.heap.objs.size + 1) } := I1.kept (t' := s1.toks) keep
  have ap : ∀ {l : Addr}, l < s1.heap.objs.size → l ≠ s1.heap.objs.size + 4 ∧ l ≠ s1.heap.objs.size + 3 ∧ l ≠ s1.heap.objs.size ∧ l ≠ s1.heap.objs.size + 1 := fun {l} h =>
    ⟨Nat.ne_of_lt (Nat.lt_add_right _ h), Nat.ne_of_lt (Nat.lt_add_right _ h), Nat.ne_of_lt h, Nat.ne_of_lt (Nat.lt_add_right _ h)⟩
  refine ⟨s1.heap.objs.size + 4, [s1.heap.objs.size + 4, s1.heap.objs.size + 2, s1.heap.objs.size + 3, s1.heap.objs.size, s1.heap.objs.size + 1], _, _, H1, rfl, I2, turn_F (five_new s1.heap.objs.size) (sr_list (a := a) (xs := xs)) (sr_tup (a := b) (xs := ys)) (fun l m => by rw [List.mem_singleton.mp m]; exact ap al) (fun l m => by rw [List.mem_singleton.mp m]; exact ap bl), ⟨f5, f3, ⟨_, _, f4⟩, ⟨_, f1, rfl, rfl⟩, ⟨_, f2, rfl, rfl⟩⟩, fun c hcm => ?_, q⟩
  have le : s1.heap.objs.size ≤ c := by
    simp only [List.mem_cons, List.not_mem_nil, or_false] at hcm
    rcases hcm with rfl | rfl | rfl | rfl | rfl
    · exact Nat.le_add_right _ _
    · exact Nat.le_add_right _ _
    · exact Nat.le_add_right _ _
    · exact Nat.le_refl _
    · exact Nat.le_add_right _ _
  exact I1.fpOk le (I1.hok.fresh le)
end Lj
set_option linter.all false
namespace Lj
/-! ### rows over the integers modulo p: combinations, spans, dimensions -/
abbrev Row := Nat → Int
def comb : List Int → List Row → Nat → Int
  | w :: ws, r :: R, i => w * r i + comb ws R i
  | _, _, _ => 0
/-- x is, in the places below L, a combination of R -/
def InSp (p : Int) (L : Nat) (R : List Row) (x : Row) : Prop := ∃ ws, ∀ i, i < L → p ∣ x i - comb ws R i
theorem comb_nil (ws : List Int) (i : Nat) : comb ws [] i = 0 := by cases ws <;> rfl
theorem comb_nilL (R : List Row) (i : Nat) : comb [] R i = 0 := by cases R <;> rfl
def scal (c : Int) : List Int → List Int
  | [] => []
  | w :: ws => c * w :: scal c ws
theorem comb_scal (c : Int) : ∀ (ws : List Int) (R : List Row) (i : Nat), comb (scal c ws) R i = c * comb ws R i
  | [], R, i => by rw [scal, comb_nilL, Int.mul_zero]
  | w :: ws, [], i => by rw [comb_nil, comb_nil, Int.mul_zero]
  | w :: ws, r :: R, i => by
    rw [scal, comb, comb, comb_scal c ws R i]
    grind
def plus : List Int → List Int → List Int
  | [], v => v
  | w, [] => w
  | a :: w, b :: v => (a + b) :: plus w v
theorem comb_plus : ∀ (ws vs : List Int) (R : List Row) (i : Nat), comb (plus ws vs) R i = comb ws R i + comb vs R i
  | [], v, R, i => by rw [plus, comb_nilL, Int.zero_add]
  | a :: w, [], R, i => by rw [plus, comb_nilL, Int.add_zero]; intro h; cases h
  | a :: w, b :: v, [], i => by rw [comb_nil, comb_nil, comb_nil]; rfl
  | a :: w, b :: v, r :: R, i => by
    rw [plus, comb, comb, comb, comb_plus w v R i]
    grind
section
variable {p : Int} {L : Nat}
theorem InSp.zero {R : List Row} {x : Row} (h : ∀ i, i < L → p ∣ x i) : InSp p L R x := ⟨[], fun i hi => by rw [comb_nilL, Int.sub_zero]; exact h i hi⟩
theorem InSp.lin {R : List Row} {x y z : Row} (a b : Int) (hx : InSp p L R x) (hy : InSp p L R y) (hz : ∀ i, i < L → p ∣ z i - (a * x i + b * y i)) : InSp p L R z := by
  obtain ⟨ws, hw⟩ := hx
  obtain ⟨vs, hv⟩ := hy
  refine ⟨plus (scal a ws) (scal b vs), fun i hi => ?_⟩
  rw [comb_plus, comb_scal, comb_scal]
  obtain ⟨k1, e1⟩ := hw i hi
  obtain ⟨k2, e2⟩ := hv i hi
  obtain ⟨k3, e3⟩ := hz i hi
  refine ⟨k3 + a * k1 + b * k2, ?_⟩
  grind
theorem InSp.cong {R : List Row} {x z : Row} (hx : InSp p L R x) (hz : ∀ i, i < L → p ∣ z i - x i) : InSp p L R z := by
  refine InSp.lin 1 0 hx hx fun i hi => ?_
  obtain ⟨k, e⟩ := hz i hi
  exact ⟨k, by grind⟩
theorem InSp.mem {r : Row} : ∀ {R : List Row}, r ∈ R → InSp p L R r
  | a :: R, h => by
    rcases List.mem_cons.mp h with rfl | h
    · refine ⟨[1], fun i _ => ?_⟩
      rw [comb, comb_nilL]
      exact ⟨0, by grind⟩
    · obtain ⟨ws, hw⟩ := InSp.mem h
      refine ⟨0 :: ws, fun i hi => ?_⟩
      rw [comb]
      obtain ⟨k, e⟩ := hw i hi
      exact ⟨k, by grind⟩
theorem InSp.of_comb {S : List Row} : ∀ {R : List Row} (ws : List Int), (∀ r ∈ R, InSp p L S r) → InSp p L S (comb ws R)
  | [], ws, _ => InSp.zero fun i _ => by rw [comb_nil]; exact Int.dvd_zero _
  | a :: R, [], _ => InSp.zero fun i _ => by rw [comb_nilL]; exact Int.dvd_zero _
  | a :: R, w :: ws, h => by
    refine InSp.lin w 1 (h a List.mem_cons_self) (InSp.of_comb ws fun r m => h r (List.mem_cons_of_mem _ m)) fun i _ => ?_
    rw [comb]
    exact ⟨0, by grind⟩
theorem InSp.into {R S : List Row} {x : Row} (hx : InSp p L R x) (h : ∀ r ∈ R, InSp p L S r) : InSp p L S x := by
  obtain ⟨ws, hw⟩ := hx
  exact (InSp.of_comb ws h).cong hw
theorem InSp.mono {R S : List Row} {x : Row} (hx : InSp p L R x) (h : ∀ r ∈ R, r ∈ S) : InSp p L S x := hx.into fun r m => InSp.mem (h r m)
theorem InSp.cons_iff {R : List Row} {a x : Row} : InSp p L (a :: R) x ↔ ∃ c : Int, InSp p L R fun i => x i - c * a i := by
  constructor
  · rintro ⟨ws, hw⟩
    cases ws with
    | nil =>
      refine ⟨0, InSp.zero fun i hi => ?_⟩
      have := hw i hi
      rw [comb_nilL, Int.sub_zero] at this
      rw [Int.zero_mul, Int.sub_zero]
      exact this
    | cons w ws =>
      refine ⟨w, ws, fun i hi => ?_⟩
      have := hw i hi
      rw [comb] at this
      rw [show x i - w * a i - comb ws R i = x i - (w * a i + comb ws R i) by omega]
      exact this
  · rintro ⟨c, h⟩
    refine InSp.lin 1 c (h.mono fun r m => List.mem_cons_of_mem _ m) (InSp.mem (r := a) List.mem_cons_self) fun i _ => ⟨0, by grind⟩
/-- p is a prime as far as inverses go -/
def PInv (p : Int) : Prop := 1 < p ∧ ∀ a : Int, ¬ p ∣ a → ∃ b : Int, p ∣ a * b - 1
theorem InSp.swap {R : List Row} {a b : Row} (hp : PInv p) (h : InSp p L (a :: R) b) (n : ¬ InSp p L R b) : InSp p L (b :: R) a := by
  obtain ⟨c, hc⟩ := InSp.cons_iff.mp h
  by_cases d : p ∣ c
  · refine absurd (hc.cong fun i _ => ?_) n
    obtain ⟨k, e⟩ := d
    exact ⟨k * a i, by grind⟩
  · obtain ⟨u, k, e⟩ := hp.2 c d
    refine InSp.lin u (-u) (InSp.mem (r := b) List.mem_cons_self) (hc.mono fun r m => List.mem_cons_of_mem _ m) fun i _ => ?_
    exact ⟨- k * a i, by grind⟩
theorem InSp.nil_iff {x : Row} : InSp p L [] x ↔ ∀ i, i < L → p ∣ x i := by
  constructor
  · rintro ⟨ws, h⟩ i hi
    have := h i hi
    rw [comb_nil, Int.sub_zero] at this
    exact this
  · exact InSp.zero
/-! ### dimension, counted from the front -/
open Classical in
theorem one_iff {P Q : Prop} (h : P ↔ Q) : (if P then 0 else 1 : Nat) = if Q then 0 else 1 := by
  by_cases p : P
  · rw [if_pos p, if_pos (h.mp p)]
  · rw [if_neg p, if_neg fun q => p (h.mpr q)]
open Classical in
noncomputable def dimA (p : Int) (L : Nat) (A : List Row) : List Row → Nat
  | [] => 0
  | r :: R => (if InSp p L A r then 0 else 1) + dimA p L (r :: A) R
noncomputable def dim (p : Int) (L : Nat) (R : List Row) : Nat := dimA p L [] R
theorem dimA_cong : ∀ (R : List Row) {A B : List Row}, (∀ x, InSp p L A x ↔ InSp p L B x) → dimA p L A R = dimA p L B R
  | [], _, _, _ => rfl
  | r :: R, A, B, h => by
    rw [dimA, dimA]
    rw [one_iff (h r)]
    rw [dimA_cong R (A := r :: A) (B := r :: B) fun x => ?_]
    rw [InSp.cons_iff, InSp.cons_iff]
    exact ⟨fun ⟨c, z⟩ => ⟨c, (h _).mp z⟩, fun ⟨c, z⟩ => ⟨c, (h _).mpr z⟩⟩
theorem sp_perm2 {A : List Row} {a b x : Row} (h : InSp p L (a :: b :: A) x) : InSp p L (b :: a :: A) x := h.mono fun r m => by
  simp only [List.mem_cons] at m ⊢
  rcases m with m | m | m
  · exact .inr (.inl m)
  · exact .inl m
  · exact .inr (.inr m)
theorem dimA_swap (hp : PInv p) (A R : List Row) (a b : Row) : dimA p L A (a :: b :: R) = dimA p L A (b :: a :: R) := by
  rw [dimA, dimA, dimA, dimA]
  rw [dimA_cong R (A := b :: a :: A) (B := a :: b :: A) fun x => ⟨sp_perm2, sp_perm2⟩]
  have m1 : InSp p L A b → InSp p L (a :: A) b := fun h => h.mono fun r m => List.mem_cons_of_mem _ m
  have m2 : InSp p L A a → InSp p L (b :: A) a := fun h => h.mono fun r m => List.mem_cons_of_mem _ m
  by_cases ha : InSp p L A a
  · by_cases hb : InSp p L A b
    · simp only [if_pos ha, if_pos hb, if_pos (m1 hb), if_pos (m2 ha)]
    · have n : ¬ InSp p L (a :: A) b := fun z => hb (z.into fun r m => by
        rcases List.mem_cons.mp m with rfl | m
        · exact ha
        · exact InSp.mem m)
      simp only [if_pos ha, if_neg hb, if_neg n, if_pos (m2 ha)]
      omega
  · by_cases hb : InSp p L A b
    · have n : ¬ InSp p L (b :: A) a := fun z => ha (z.into fun r m => by
        rcases List.mem_cons.mp m with rfl | m
        · exact hb
        · exact InSp.mem m)
      simp only [if_neg ha, if_pos hb, if_pos (m1 hb), if_neg n]
      omega
    · by_cases h : InSp p L (a :: A) b
      · simp only [if_neg ha, if_neg hb, if_pos h, if_pos (h.swap hp hb)]
      · have n : ¬ InSp p L (b :: A) a := fun z => h (z.swap hp ha)
        simp only [if_neg ha, if_neg hb, if_neg h, if_neg n]
theorem dimA_front (hp : PInv p) : ∀ (R A : List Row) (r : Row), dimA p L A (R ++ [r]) = dimA p L A (r :: R)
  | [], A, r => rfl
  | a :: R, A, r => by
    rw [dimA_swap hp, List.cons_append, dimA, dimA_front hp R (a :: A) r]
    conv => rhs; rw [dimA]
open Classical in
theorem dimA_back : ∀ (R A : List Row) (r : Row), dimA p L A (R ++ [r]) = dimA p L A R + (if InSp p L (R ++ A) r then 0 else 1)
  | [], A, r => by
    show dimA p L A [r] = dimA p L A [] + _
    rw [dimA, dimA, dimA]
    simp
  | a :: R, A, r => by
    rw [List.cons_append, dimA, dimA_back R (a :: A) r, dimA]
    have e : InSp p L (R ++ a :: A) r = InSp p L (a :: R ++ A) r := propext (by
      have k : ∀ {S T : List Row}, (∀ x, x ∈ S → x ∈ T) → InSp p L S r → InSp p L T r := fun h z => z.mono h
      exact ⟨k (by intro x m; simp only [List.cons_append, List.mem_cons, List.mem_append] at m ⊢; rcases m with m | m | m <;> simp [m]), k (by intro x m; simp only [List.cons_append, List.mem_cons, List.mem_append] at m ⊢; rcases m with m | m | m <;> simp [m])⟩)
    simp only [e]
    omega
open Classical in
theorem dim_back (R : List Row) (r : Row) : dim p L (R ++ [r]) = dim p L R + (if InSp p L R r then 0 else 1) := by
  have := dimA_back (p := p) (L := L) R [] r
  rw [List.append_nil] at this
  exact this
theorem dim_zero (hp : PInv p) {R : List Row} {r : Row} (h : ∀ i, i < L → p ∣ r i) : dim p L (R ++ [r]) = dim p L R := by
  rw [dim_back, if_pos (InSp.zero h)]
  rfl
/-- f takes a multiple of r away, such that place k becomes 0 -/
theorem sp_red {r : Row} {f : Row → Row} {k : Nat} (hp : PInv p) (hk : k < L) (hr : ¬ p ∣ r k) (hf : ∀ x, ∃ c : Int, ∀ i, i < L → p ∣ f x i - (x i - c * r i)) (h0 : ∀ x, p ∣ f x k) {A : List Row} {x : Row} :
    InSp p L (A ++ [r]) x ↔ InSp p L (A.map f) (f x) := by
  constructor
  · intro h
    -- all in terms of f and r
    have h1 : InSp p L (r :: A.map f) (f x) := by
      obtain ⟨c, hc⟩ := hf x
      refine InSp.lin (x := x) (y := r) 1 (-c) (h.into fun a m => ?_) (InSp.mem List.mem_cons_self) fun i hi => ?_
      · rcases List.mem_append.mp m with m | m
        · obtain ⟨c, hc⟩ := hf a
          refine InSp.lin (x := f a) (y := r) 1 c (InSp.mem (List.mem_cons_of_mem _ (List.mem_map_of_mem m))) (InSp.mem List.mem_cons_self) fun i hi => ?_
          obtain ⟨u, e⟩ := hc i hi
          exact ⟨-u, by grind⟩
        · rw [List.mem_singleton.mp m]
          exact InSp.mem List.mem_cons_self
      · obtain ⟨u, e⟩ := hc i hi
        exact ⟨u, by grind⟩
    obtain ⟨c, hc⟩ := InSp.cons_iff.mp h1
    have key : p ∣ c * r k := by
      obtain ⟨ws, hw⟩ := hc
      obtain ⟨u, e⟩ := hw k hk
      obtain ⟨v, e2⟩ := h0 x
      have z : ∀ (B : List Row) (ws : List Int), p ∣ comb ws (B.map f) k := by
        intro B
        induction B with
        | nil =>
          intro ws
          show p ∣ comb ws [] k
          rw [comb_nil]
          exact Int.dvd_zero _
        | cons b B ih =>
          intro ws
          cases ws with
          | nil => rw [comb_nilL]; exact Int.dvd_zero _
          | cons w ws =>
            rw [List.map_cons, comb]
            exact Int.dvd_add (Int.dvd_mul_of_dvd_right (h0 b)) (ih ws)
      obtain ⟨t, e3⟩ := z A ws
      exact ⟨v - u - t, by grind⟩
    have hc0 : p ∣ c := by
      obtain ⟨b, m, e⟩ := hp.2 _ hr
      obtain ⟨n, e2⟩ := key
      exact ⟨n * b - c * m, by grind⟩
    refine hc.cong fun i _ => ?_
    obtain ⟨n, e⟩ := hc0
    exact ⟨n * r i, by grind⟩
  · intro h
    obtain ⟨c, hc⟩ := hf x
    refine InSp.lin (x := f x) (y := r) 1 c (h.into fun b m => ?_) (InSp.mem (List.mem_append_right _ List.mem_cons_self)) fun i hi => ?_
    · obtain ⟨a, ma, rfl⟩ := List.mem_map.mp m
      obtain ⟨c, hc⟩ := hf a
      refine InSp.lin (x := a) (y := r) 1 (-c) (InSp.mem (List.mem_append_left _ ma)) (InSp.mem (List.mem_append_right _ List.mem_cons_self)) fun i hi => ?_
      obtain ⟨u, e⟩ := hc i hi
      exact ⟨u, by grind⟩
    · obtain ⟨u, e⟩ := hc i hi
      exact ⟨-u, by grind⟩
theorem dimA_red {r : Row} {f : Row → Row} {k : Nat} (hp : PInv p) (hk : k < L) (hr : ¬ p ∣ r k) (hf : ∀ x, ∃ c : Int, ∀ i, i < L → p ∣ f x i - (x i - c * r i)) (h0 : ∀ x, p ∣ f x k) : ∀ (R A : List Row), dimA p L (A ++ [r]) R = dimA p L (A.map f) (R.map f)
  | [], A => rfl
  | a :: R, A => by
    rw [dimA, List.map_cons, dimA]
    have ih := dimA_red hp hk hr hf h0 R (a :: A)
    rw [List.cons_append, List.map_cons] at ih
    rw [ih]
    rw [one_iff (sp_red hp hk hr hf h0)]
theorem dim_red {r : Row} {f : Row → Row} {k : Nat} (hp : PInv p) (hk : k < L) (hr : ¬ p ∣ r k) (hf : ∀ x, ∃ c : Int, ∀ i, i < L → p ∣ f x i - (x i - c * r i)) (h0 : ∀ x, p ∣ f x k) (R : List Row) : dim p L (R ++ [r]) = 1 + dim p L (R.map f) := by
  unfold dim
  rw [dimA_front hp, dimA, if_neg fun z => hr (InSp.nil_iff.mp z k hk)]
  have := dimA_red hp hk hr hf h0 R []
  rw [List.nil_append] at this
  rw [this]
  rfl
end
end Lj
set_option linter.all false
namespace Lj
/-! ### inverses by powers, as the law finds them -/
def pmg : Nat → Nat → Nat → Nat → Nat → Nat
  | 0, _, f, _, _ => f
  | n + 1, q, f, b, l => bif Nat.beq l 0 then f else pmg n q (bif Nat.beq (l % 2) 1 then f * b % q else f) (b * b % q) (l / 2)
def prsN : List Nat := [2, 3, 5, 7, 11, 13, 97, 251, 9973, 10007]
def pmOk (q : Nat) : Bool := (List.range q).all fun a => Nat.beq a 0 || Nat.beq (a * pmg 14 q 1 a (q - 2) % q) 1
theorem pm_ok : (prsN.all pmOk) = true := by decide +kernel
theorem pmg_zero (n q f b : Nat) : pmg n q f b 0 = f := by
  cases n with
  | zero => rfl
  | succ n => rfl
theorem pmg_step (n q f b l : Nat) (h : l ≠ 0) : pmg (n + 1) q f b l = pmg n q (if l % 2 = 1 then f * b % q else f) (b * b % q) (l / 2) := by
  rw [pmg]
  have e : Nat.beq l 0 = false := by
    cases z : Nat.beq l 0 with
    | false => rfl
    | true => exact absurd (Nat.eq_of_beq_eq_true z) h
  rw [e]
  by_cases c : l % 2 = 1
  · rw [if_pos c, c]
    rfl
  · have e2 : Nat.beq (l % 2) 1 = false := by
      cases z : Nat.beq (l % 2) 1 with
      | false => rfl
      | true => exact absurd (Nat.eq_of_beq_eq_true z) c
    rw [if_neg c, e2]
    rfl
theorem pm_inv {q a : Nat} (hq : q ∈ prsN) (h0 : 0 < a) (h1 : a < q) : a * pmg 14 q 1 a (q - 2) % q = 1 := by
  have k := List.all_eq_true.mp (List.all_eq_true.mp pm_ok q hq) a (List.mem_range.mpr h1)
  rw [Bool.or_eq_true] at k
  rcases k with k | k
  · exact absurd (Nat.eq_of_beq_eq_true k) (by omega)
  · exact Nat.eq_of_beq_eq_true k
theorem pinv_prs {q : Int} (hq : q ∈ prsN.map fun n : Nat => (n : Int)) : PInv q := by
  obtain ⟨n, hn, rfl⟩ := List.mem_map.mp hq
  have n1 : 1 < n := by
    have z : (prsN.all fun n => decide (1 < n)) = true := by decide
    exact of_decide_eq_true (List.all_eq_true.mp z n hn)
  refine ⟨by omega, fun a ha => ?_⟩
  have m0 := Int.emod_nonneg a (show (n : Int) ≠ 0 by omega)
  have m1 := Int.emod_lt_of_pos a (show (0 : Int) < n by omega)
  have mz : a % n ≠ 0 := fun z => ha (Int.dvd_of_emod_eq_zero z)
  have k := pm_inv hn (a := (a % n).toNat) (by omega) (by omega)
  generalize pmg 14 n 1 (a % n).toNat (n - 2) = b at k
  refine ⟨(b : Int), ?_⟩
  have e1 : ((a % n).toNat * b : Nat) = n * ((a % n).toNat * b / n) + 1 := by
    have := Nat.div_add_mod ((a % n).toNat * b) n
    omega
  have e3 : (((a % n).toNat : Nat) : Int) = a % n := Int.toNat_of_nonneg m0
  generalize (a % n).toNat * b / n = z at e1
  have e2 : (a % n) * (b : Int) = (n : Int) * (z : Int) + 1 := by
    rw [← e3, ← Int.natCast_mul, e1, Int.natCast_add, Int.natCast_mul]
    rfl
  have e4 := Int.emod_def a n
  rw [e4] at e2
  exact ⟨(z : Int) + a / n * b, by grind⟩
/-! ### sums, dot products -/
def sumF (f : Nat → Int) : Nat → Int
  | 0 => 0
  | n + 1 => sumF f n + f n
theorem sumF_cong {f g : Nat → Int} : ∀ {n : Nat}, (∀ k, k < n → f k = g k) → sumF f n = sumF g n
  | 0, _ => rfl
  | n + 1, h => by rw [sumF, sumF, sumF_cong fun k hk => h k (Nat.lt_succ_of_lt hk), h n (Nat.lt_succ_self n)]
theorem sumF_add (f : Nat → Int) (a : Nat) : ∀ b : Nat, sumF f (a + b) = sumF f a + sumF (fun i => f (a + i)) b
  | 0 => by rw [sumF, Nat.add_zero, Int.add_zero]
  | b + 1 => by rw [← Nat.add_assoc, sumF, sumF_add f a b, sumF]; omega
theorem sumF_zero {f : Nat → Int} : ∀ {n : Nat}, (∀ k, k < n → f k = 0) → sumF f n = 0
  | 0, _ => rfl
  | n + 1, h => by rw [sumF, sumF_zero fun k hk => h k (Nat.lt_succ_of_lt hk), h n (Nat.lt_succ_self n)]; rfl
theorem sumF_dvd {p : Int} {f g : Nat → Int} : ∀ {n : Nat}, (∀ k, k < n → p ∣ f k - g k) → p ∣ sumF f n - sumF g n
  | 0, _ => ⟨0, by rw [sumF, sumF]; omega⟩
  | n + 1, h => by
    obtain ⟨a, ha⟩ := sumF_dvd (n := n) fun k hk => h k (Nat.lt_succ_of_lt hk)
    obtain ⟨b, hb⟩ := h n (Nat.lt_succ_self n)
    exact ⟨a + b, by rw [sumF, sumF]; grind⟩
theorem sumF_lin (a b : Int) (f g : Nat → Int) : ∀ n : Nat, sumF (fun k => a * f k + b * g k) n = a * sumF f n + b * sumF g n
  | 0 => by rw [sumF, sumF, sumF]; omega
  | n + 1 => by rw [sumF, sumF, sumF, sumF_lin a b f g n]; grind
def dot (n : Nat) (e v : Nat → Int) : Int := sumF (fun k => e k * v k) n
theorem dot_lin {p a b : Int} {n : Nat} {e f g v : Nat → Int} (h : ∀ k, k < n → p ∣ e k - (a * f k + b * g k)) : p ∣ dot n e v - (a * dot n f v + b * dot n g v) := by
  unfold dot
  rw [← sumF_lin]
  refine sumF_dvd fun k hk => ?_
  obtain ⟨m, hm⟩ := h k hk
  exact ⟨m * v k, by grind⟩
/-- e begins at c, with 1 -/
def Begins (c : Nat) (e : Nat → Int) : Prop := (∀ k, k < c → e k = 0) ∧ e c = 1
theorem dot_begins {n c : Nat} {e v : Nat → Int} (h : Begins c e) (hc : c < n) : dot n e v = v c + sumF (fun i => e (c + 1 + i) * v (c + 1 + i)) (n - (c + 1)) := by
  unfold dot
  obtain ⟨m, rfl⟩ : ∃ m, n = c + 1 + m := ⟨n - (c + 1), by omega⟩
  rw [sumF_add, sumF, sumF_zero fun k hk => by rw [h.1 k hk, Int.zero_mul], h.2, show c + 1 + m - (c + 1) = m by omega]
  omega
theorem dot_last {n c : Nat} {e v : Nat → Int} (h : Begins c e) (hc : c < n) (hv : ∀ k, c < k → k < n → v k = 0) : dot n e v = v c := by
  rw [dot_begins h hc, sumF_zero fun k hk => by rw [hv _ (by omega) (by omega), Int.mul_zero]]
  omega
/-! ### weights of rows: what the equations say -/
/-- the weights ws, then -1 -/
def ext (m : Nat) (w : Nat → Int) : Nat → Int := fun k => if k < m then w k else -1
/-- the sum of rows by index -/
theorem comb_sum : ∀ (ws : List Int) (R : List Row) (i : Nat), ws.length = R.length → comb ws R i = sumF (fun k => (R.getD k fun _ => 0) i * ws.getD k 0) R.length
  | [], [], i, _ => rfl
  | w :: ws, r :: R, i, h => by
    rw [comb, comb_sum ws R i (by simpa using h), List.length_cons, Nat.add_comm R.length 1, sumF_add, sumF, sumF]
    simp only [Nat.add_comm 1, List.getD_cons_succ, List.getD_cons_zero]
    grind
/-- a combination may be given as many weights as there are rows -/
theorem comb_pad : ∀ (ws : List Int) (R : List Row), ∃ vs : List Int, vs.length = R.length ∧ ∀ i, comb vs R i = comb ws R i
  | ws, [] => ⟨[], rfl, fun i => by rw [comb_nil, comb_nil]⟩
  | [], r :: R => by
    obtain ⟨vs, h, e⟩ := comb_pad [] R
    refine ⟨0 :: vs, by simp [h], fun i => ?_⟩
    rw [comb, e, comb_nilL, comb_nilL]
    omega
  | w :: ws, r :: R => by
    obtain ⟨vs, h, e⟩ := comb_pad ws R
    refine ⟨w :: vs, by simp [h], fun i => ?_⟩
    rw [comb, comb, e]
theorem InSp.sum {p : Int} {L : Nat} {R : List Row} {x : Row} : InSp p L R x ↔ ∃ w : Nat → Int, ∀ i, i < L → p ∣ x i - sumF (fun k => (R.getD k fun _ => 0) i * w k) R.length := by
  constructor
  · rintro ⟨ws, h⟩
    obtain ⟨vs, hl, e⟩ := comb_pad ws R
    refine ⟨fun k => vs.getD k 0, fun i hi => ?_⟩
    rw [← comb_sum vs R i hl, e]
    exact h i hi
  · rintro ⟨w, h⟩
    refine ⟨(List.range R.length).map w, fun i hi => ?_⟩
    rw [comb_sum _ R i (by simp)]
    have e : sumF (fun k => (R.getD k fun _ => 0) i * ((List.range R.length).map w).getD k 0) R.length = sumF (fun k => (R.getD k fun _ => 0) i * w k) R.length := sumF_cong fun k hk => by
      rw [List.getD_eq_getElem?_getD (l := (List.range R.length).map w), List.getElem?_map, List.getElem?_range hk]
      rfl
    rw [e]
    exact h i hi
/-- the coefficients of place i: one for each row, then the right side -/
def eqn (R : List Row) (x : Row) (i : Nat) : Nat → Int := fun k => if k < R.length then (R.getD k fun _ => 0) i else x i
theorem dot_eqn (R : List Row) (x : Row) (i : Nat) (w : Nat → Int) : dot (R.length + 1) (eqn R x i) (ext R.length w) = sumF (fun k => (R.getD k fun _ => 0) i * w k) R.length - x i := by
  unfold dot
  rw [sumF]
  have e : sumF (fun k => eqn R x i k * ext R.length w k) R.length = sumF (fun k => (R.getD k fun _ => 0) i * w k) R.length := sumF_cong fun k hk => by
    unfold eqn ext
    rw [if_pos hk, if_pos hk]
  rw [e]
  unfold eqn ext
  rw [if_neg (Nat.lt_irrefl _), if_neg (Nat.lt_irrefl _)]
  omega
/-- what is known of the leading equations: lead c e says that e leads at c -/
structure Lead (p : Int) (R : List Row) (x : Row) (L : Nat) (lead : Nat → (Nat → Int) → Prop) : Prop where
  bg : ∀ c e, lead c e → c ≤ R.length ∧ Begins c e
  same : ∀ v : Nat → Int, (∀ i, i < L → p ∣ dot (R.length + 1) (eqn R x i) v) ↔ ∀ c e, lead c e → p ∣ dot (R.length + 1) e v
theorem Lead.none {p : Int} {R : List Row} {x : Row} {L : Nat} {lead : Nat → (Nat → Int) → Prop} (h : Lead p R x L lead) (hp : 1 < p) {e : Nat → Int} (k : lead R.length e) : ¬ InSp p L R x := by
  intro z
  obtain ⟨w, hw⟩ := InSp.sum.mp z
  have y := (h.same (ext R.length w)).mp (fun i hi => by
    rw [dot_eqn]
    obtain ⟨a, ha⟩ := hw i hi
    exact ⟨-a, by grind⟩) _ _ k
  rw [dot_last (h.bg _ _ k).2 (by omega) (fun j h1 h2 => by omega)] at y
  unfold ext at y
  rw [if_neg (Nat.lt_irrefl _)] at y
  obtain ⟨a, ha⟩ := y
  have : p ∣ 1 := ⟨-a, by grind⟩
  have := Int.le_of_dvd (by decide) this
  omega
theorem Lead.some {p : Int} {R : List Row} {x : Row} {L : Nat} {lead : Nat → (Nat → Int) → Prop} (h : Lead p R x L lead) {w : Nat → Int} (k : ∀ c e, lead c e → p ∣ dot (R.length + 1) e (ext R.length w)) : ∀ i, i < L → p ∣ x i - sumF (fun k => (R.getD k fun _ => 0) i * w k) R.length := by
  intro i hi
  have y := (h.same _).mpr k i hi
  rw [dot_eqn] at y
  obtain ⟨a, ha⟩ := y
  exact ⟨-a, by grind⟩
theorem Lead.new {p : Int} {R : List Row} {x : Row} {L : Nat} {lead : Nat → (Nat → Int) → Prop} (h : Lead p R x L lead) (hp : 1 < p) {c : Nat} {e : Nat → Int} (k : lead c e) (hc : c < R.length) : ¬ InSp p L (R.take c) (R.getD c fun _ => 0) := by
  intro z
  obtain ⟨w, hw⟩ := InSp.sum.mp z
  have lt : (R.take c).length = c := by rw [List.length_take]; omega
  rw [lt] at hw
  have y := (h.same (fun j => if j < c then w j else if j = c then -1 else 0)).mp (fun i hi => by
    obtain ⟨a, ha⟩ := hw i hi
    have e0 : dot (R.length + 1) (eqn R x i) (fun j => if j < c then w j else if j = c then -1 else 0) = sumF (fun k => ((R.take c).getD k fun _ => 0) i * w k) c - (R.getD c fun _ => 0) i := by
      unfold dot
      obtain ⟨m, hm⟩ : ∃ m, R.length + 1 = c + 1 + m := ⟨R.length - c, by omega⟩
      rw [hm, sumF_add, sumF]
      have z1 : sumF (fun i_1 => eqn R x i (c + 1 + i_1) * if c + 1 + i_1 < c then w (c + 1 + i_1) else if c + 1 + i_1 = c then -1 else 0) m = 0 := sumF_zero fun k _ => by
        rw [if_neg (by omega), if_neg (by omega), Int.mul_zero]
      have z2 : sumF (fun k => eqn R x i k * if k < c then w k else if k = c then -1 else 0) c = sumF (fun k => ((R.take c).getD k fun _ => 0) i * w k) c := sumF_cong fun k hk => by
        rw [if_pos hk]
        unfold eqn
        rw [if_pos (by omega), List.getD_eq_getElem?_getD, List.getD_eq_getElem?_getD, List.getElem?_take_of_lt hk]
      rw [z1, z2]
      have z3 : (if c < c then w c else if c = c then -1 else 0 : Int) = -1 := by rw [if_neg (Nat.lt_irrefl _), if_pos rfl]
      have z4 : eqn R x i c = (R.getD c fun _ => 0) i := by
        unfold eqn
        rw [if_pos hc]
      show _ + eqn R x i c * (if c < c then w c else if c = c then -1 else 0) + 0 = _
      rw [z3, z4]
      omega
    exact ⟨-a, by rw [e0]; grind⟩) _ _ k
  rw [dot_last (h.bg _ _ k).2 (by omega) (fun j h1 h2 => by rw [if_neg (by omega), if_neg (by omega)]), if_neg (Nat.lt_irrefl _), if_pos rfl] at y
  obtain ⟨a, ha⟩ := y
  have : p ∣ 1 := ⟨-a, by grind⟩
  have := Int.le_of_dvd (by decide) this
  omega
/-! ### weights are unique -/
/-- the weights of x: field elements, 0 where a row is a combination of those before it -/
structure Wts (p : Int) (L : Nat) (R : List Row) (x : Row) (w : List Int) : Prop where
  len : w.length = R.length
  bd : ∀ a ∈ w, 0 ≤ a ∧ a < p
  sum : ∀ i, i < L → p ∣ x i - sumF (fun k => (R.getD k fun _ => 0) i * w.getD k 0) R.length
  nz : ∀ c, c < R.length → w.getD c 0 ≠ 0 → ¬ InSp p L (R.take c) (R.getD c fun _ => 0)
theorem Wts.uniq {p : Int} {L : Nat} {R : List Row} {x : Row} {w u : List Int} (hp : PInv p) (a : Wts p L R x w) (b : Wts p L R x u) : w = u := by
  refine Classical.byContradiction fun ne => ?_
  -- the last place where they differ
  have key : ∀ n, n ≤ R.length → (∀ k, n ≤ k → k < R.length → w.getD k 0 = u.getD k 0) → False := by
    intro n
    induction n with
    | zero =>
      intro _ h
      refine ne (List.ext_getElem (by rw [a.len, b.len]) fun k h1 h2 => ?_)
      have := h k (Nat.zero_le _) (by rw [← a.len]; exact h1)
      rw [List.getD_eq_getElem?_getD, List.getD_eq_getElem?_getD, List.getElem?_eq_getElem h1, List.getElem?_eq_getElem h2] at this
      exact this
    | succ n ih =>
      intro hn h
      refine ih (by omega) fun k h1 h2 => ?_
      by_cases e : k = n
      · subst e
        refine Classical.byContradiction fun d => ?_
        have bd : ∀ {v : List Int}, (∀ a ∈ v, 0 ≤ a ∧ a < p) → k < v.length → 0 ≤ v.getD k 0 ∧ v.getD k 0 < p := fun {v} hv hk => by
          rw [List.getD_eq_getElem?_getD, List.getElem?_eq_getElem hk]
          exact hv _ (List.getElem_mem hk)
        have b1 := bd a.bd (by rw [a.len]; omega)
        have b2 := bd b.bd (by rw [b.len]; omega)
        have nd : ¬ p ∣ w.getD k 0 - u.getD k 0 := fun z => by
          have p1 := hp.1
          rcases Int.lt_trichotomy (w.getD k 0 - u.getD k 0) 0 with q | q | q
          · have := Int.le_of_dvd (a := p) (b := u.getD k 0 - w.getD k 0) (by omega) (by obtain ⟨m, hm⟩ := z; exact ⟨-m, by grind⟩)
            omega
          · omega
          · have := Int.le_of_dvd q z
            omega
        obtain ⟨t, m, hm⟩ := hp.2 _ nd
        have dep : InSp p L (R.take k) (R.getD k fun _ => 0) := by
          refine InSp.sum.mpr ⟨fun j => -t * (w.getD j 0 - u.getD j 0), fun i hi => ?_⟩
          have lt : (R.take k).length = k := by rw [List.length_take]; omega
          rw [lt]
          obtain ⟨m1, e1⟩ := a.sum i hi
          obtain ⟨m2, e2⟩ := b.sum i hi
          have split : ∀ v : List Int, sumF (fun j => (R.getD j fun _ => 0) i * v.getD j 0) R.length = sumF (fun j => (R.getD j fun _ => 0) i * v.getD j 0) k + (R.getD k fun _ => 0) i * v.getD k 0 + sumF (fun j => (R.getD (k + 1 + j) fun _ => 0) i * v.getD (k + 1 + j) 0) (R.length - (k + 1)) := fun v => by
            have e : R.length = k + 1 + (R.length - (k + 1)) := by omega
            conv => lhs; rw [e, sumF_add, sumF]
          rw [split w] at e1
          rw [split u] at e2
          have tail : sumF (fun j => (R.getD (k + 1 + j) fun _ => 0) i * w.getD (k + 1 + j) 0) (R.length - (k + 1)) = sumF (fun j => (R.getD (k + 1 + j) fun _ => 0) i * u.getD (k + 1 + j) 0) (R.length - (k + 1)) := sumF_cong fun j hj => by
            rw [h (k + 1 + j) (by omega) (by omega)]
          rw [tail] at e1
          have front : sumF (fun j => ((R.take k).getD j fun _ => 0) i * (-t * (w.getD j 0 - u.getD j 0))) k = -t * sumF (fun j => (R.getD j fun _ => 0) i * w.getD j 0) k + t * sumF (fun j => (R.getD j fun _ => 0) i * u.getD j 0) k := by
            rw [← sumF_lin]
            refine sumF_cong fun j hj => ?_
            have : (R.take k).getD j (fun _ => 0) = R.getD j fun _ => 0 := by
              rw [List.getD_eq_getElem?_getD, List.getD_eq_getElem?_getD, List.getElem?_take_of_lt hj]
            rw [this]
            grind
          rw [front]
          generalize sumF (fun j => (R.getD j fun _ => 0) i * w.getD j 0) k = A at *
          generalize sumF (fun j => (R.getD j fun _ => 0) i * u.getD j 0) k = B at *
          generalize sumF (fun j => (R.getD (k + 1 + j) fun _ => 0) i * u.getD (k + 1 + j) 0) (R.length - (k + 1)) = C at *
          generalize w.getD k 0 = W at *
          generalize u.getD k 0 = U at *
          generalize (R.getD k fun _ => 0) i = r at *
          generalize x i = y at *
          clear split tail front
          exact ⟨t * m2 - t * m1 - r * m, by grind⟩
        have z1 : w.getD k 0 = 0 := Classical.byContradiction fun z => a.nz k h2 z dep
        have z2 : u.getD k 0 = 0 := Classical.byContradiction fun z => b.nz k h2 z dep
        exact d (z1.trans z2.symm)
      · exact h k (by omega) h2
  exact key R.length (Nat.le_refl _) fun k h1 h2 => by omega
theorem Wts.in_sp {p : Int} {L : Nat} {R : List Row} {x : Row} {w : List Int} (a : Wts p L R x w) : InSp p L R x := InSp.sum.mpr ⟨fun k => w.getD k 0, a.sum⟩
end Lj
set_option Elab.async false
set_option linter.all false
set_option maxRecDepth 100000
set_option maxHeartbeats 1000000
namespace Lj
open PySem PySem.Spec PyProof.Rows L2
/-! ### sorted(d, reverse=b), d a dict with int keys -/
def rSortDR (b : Bool) : List V → List V → Hp → VK → Prop := fun vs zs H Q => ∃ (a : Addr) (kvs : List (Key × V)) (ks : List Int), vs = [.ref a] ∧ zs = [.bl b] ∧ Rd H a (.dK kvs) ∧ kvs.map (·.1) = ks.map Sum.inl ∧ ks.length ≤ 1000 ∧
  ∀ (ys : List Int) (p : Addr), ys.Perm ks → OrdB b ys → H p = none → Q (.ref p) (upd H p (.lst (ys.map V.int)))
theorem cr_sortDR {X : Cx} {b : Bool} (calm : X.calm = true) : CallRK X (.builtin "sorted") [Str.ofString "reverse"] (rSortDR b) := by
  intro pins s σ H vs zs us ws Q I r rz h
  obtain ⟨a, kvs, ks, rfl, rfl, hd, hk, hl, q⟩ := h
  obtain rfl := Vals.ref1 r
  obtain ⟨w1, rfl, e1⟩ := vals1 rz
  obtain rfl : w1 = Value.bool b := e1
  obtain ⟨z, lo, ps, rel, dd⟩ := dk_rd I.hok hd
  obtain ⟨ep, hat⟩ := dd.dictAt
  have keys : ps.map (·.1) = ks.map Sum.inl := rel.keys.symm.trans hk
  have len : ps.length = ks.length := by
    have e := congrArg List.length keys
    rw [List.length_map, List.length_map] at e
    exact e
  have line : ps.length ≤ sizeLine := by rw [len, sizeLine_eq]; omega
  refine PyProof.Rows.call_function_entry_kw PyProof.Rows.kind_sorted PyProof.Rows.plain_sorted PyProof.Rows.entry_sorted (PyProof.Rows.args_sorted_rev _ _) ?_
  unfold Builtin.«sorted»; refine wpAny_bind (m := checkCount "sorted" 1 1 _) (wpAny_pure ?_)
  refine wpAny_bind (PySem.W.kdu_collect (A := X.A.in1) (PySem.W.kdl_dict (knd := mixKind X.prog X.w) (kvs := ps) (ep := ep) lo) (I.ok.hd calm) hat line fun h' tk acc k ac => ?_)
  have al : acc.toList.length = ks.length := by rw [Array.length_toList, ac.1, len]
  have isI : IntsAre acc.toList ks := ints_each al fun j v e => by
    obtain ⟨x, y, g1, g2⟩ := ac.2 j v (by rw [← Array.getElem?_toList]; exact e)
    have g3 : (ps.map (·.1))[j]? = some x := by rw [List.getElem?_map, g1]; rfl
    rw [keys, List.getElem?_map] at g3
    cases g4 : ks[j]? with
    | none => rw [g4] at g3; cases g3
    | some i =>
      rw [g4] at g3
      have g5 : Sum.inl i = x := Option.some.inj g3
      subst g5
      rcases keyIs_shape (show keyIs (Sum.inl i) v = true from g2) with ⟨c, t, ek, ev⟩ | ⟨c, t, ek, ev⟩
      · cases ek
        exact ⟨i, t, rfl, ev⟩
      · cases ek
  have J : Inv X pins σ H { s with heap := h', toks := tk } := I.kept k
  have al2 : acc.toList.length ≤ sizeLine := by rw [al, sizeLine_eq]; omega
  refine wpAny_bind (wpAny_newList ?_ al2)
  have at_ : (h'.push (seqObj "list" acc.toList.toArray 0)).get? h'.objs.size = some (seqObj "list" acc.toList.toArray 0) := Heap.get?_push_size _ rfl
  show wpAny _ _ _ _ _ { s with heap := h'.push (seqObj "list" acc.toList.toArray 0), toks := tk }
  refine wpAny_bind (wpAny_holding (wpAny_call_entry_kw PyProof.Rows.slot_list_sort ⟨_, at_, rfl⟩ PyProof.Rows.entry_list_sort ?_ (PyProof.Rows.args_list_sort_rev _ _)))
  refine SrtR.list_sort_ordR (s := { s with heap := h'.push (seqObj "list" acc.toList.toArray 0), toks := tk }) SrtO.swo_int at_ al2 (fun h2 => SrtO.ints_sortable isI h2) fun out h1 h2 => ⟨_, rfl, ?_⟩
  obtain ⟨ys, k1, k2, k3⟩ := SrtR.ints_outR isI h1 h2
  obtain ⟨e', he'⟩ := PyProof.Rows.sortedHeap_at (vs := acc.toList) (out := (if b = true then out.toArray.reverse else out.toArray)) at_
  have hlen : (ys.map V.int).length ≤ sizeLine := by
    rw [List.length_map, k2.length_eq, sizeLine_eq]
    omega
  have e0 : ((if b = true then out.toArray.reverse else out.toArray).toList).toArray = (if b = true then out.toArray.reverse else out.toArray) := Array.toArray_toList ..
  refine wpAny_pure ⟨_, rfl, .ref h'.objs.size, upd H h'.objs.size (.lst (ys.map V.int)), J.laid (t' := tk) (fun c u e => ?_) (Nat.le_refl _) (show ObjOk X.prog X.w _ _ _ (.lst (ys.map V.int)) from ⟨hlen, _, e', vals_of_ints k1, by rw [e0]; exact he'⟩), rfl, q ys _ k2 k3 (J.hok.fresh (Nat.le_refl _))⟩
  have lt : c < h'.objs.size := Heap.lt_size e
  rw [PyProof.Rows.sortedHeap_old (Nat.ne_of_lt lt) (by rw [size_push']; exact Nat.lt_succ_of_lt lt)]
  exact Heap.get?_push_of_some _ e
end Lj
set_option Elab.async false
set_option linter.all false
set_option maxRecDepth 100000
set_option maxHeartbeats 1000000
namespace Lj
open PySem PySem.Spec PyProof.Rows L2
theorem un1 {k : Nat} {A : Around} (hr : Room k A) : A.units + 1 < cLine := by
  have := hr.un
  omega
theorem ifNN {c A B : Prop} [Decidable c] (h : c) (b : B) : if (!decide c) = true then A else B := by
  rw [decide_eq_true h]
  exact b
/-! ### a walk over a list or a tuple -/
theorem turn_to {P : Program} {w : World} {K : PySem.W.Frag} {tg : Expr} {J J' : It} {fp : List Addr} {it : Addr} {tn : Nat → Heap → Prop} (t : Turn P w K tg J fp it tn) (hg : ∀ i H, J'.go i H → J.go i H) (hy : ∀ i H x H', J'.go i H → J.yld i H x H' → J'.yld i H x H') (hs : ∀ i H, J'.stop i H → J.stop i H) : Turn P w K tg J' fp it tn where
  mem := t.mem
  obj := t.obj
  keep := t.keep
  item := fun X e1 e2 e3 e4 i pins s σ H E I fo st g => wpAny_mono (t.item X e1 e2 e3 e4 i pins s σ H E I fo st (hg i H g)) (fun r s1 ⟨u, eu, q⟩ => ⟨u, eu, wpAny_mono q (fun _ s2 ⟨x, H', I', rx, y, st', nn⟩ => ⟨x, H', I', rx, hy i H x H' g y, st', nn⟩) fun _ _ z => z⟩) fun _ _ z => z
  done := fun X e1 e2 e3 e4 i pins s σ H E I fo st g => t.done X e1 e2 e3 e4 i pins s σ H E I fo st (hs i H g)
  self := t.self
def ItG (G : Hp → Prop) (xs : List V) : It := ⟨fun i H => i < xs.length ∧ G H, fun i H x H' => H' = H ∧ xs[i]? = some x, fun i H => i = xs.length ∧ G H⟩
theorem walk_G2 {G : Hp → Prop} {xs : List V} : Walk (ItG G xs) xs.length G (YAt xs) := ⟨fun i _ hi q => ⟨hi, q⟩, fun _ q => ⟨rfl, q⟩, fun _ _ _ _ _ _ y => y⟩
/-- as long as G holds, xs stands at a, as a list or as a tuple -/
def SqG (K : PySem.W.Frag) (a : Addr) (xs : List V) (G : Hp → Prop) : Prop := (∀ H, G H → SqL K H a xs) ∨ (∀ H, G H → SqT K H a xs)
def iLT (K : PySem.W.Frag) (tl : TE) : TI := fun σ H R => tl σ H fun x H1 => ∃ (a : Addr) (xs : List V) (G : Hp → Prop), x = .ref a ∧ SqG K a xs G ∧ G H1 ∧ R (ItG G xs) H1
theorem pi_LT {X : Cx} {tg l : Expr} {tl : TE} (hl : PE X l tl) : PI X tg l (iLT X.K tl) := by
  refine ⟨fun pins s σ H R I h => thn (hl.run pins s σ H _ I h) fun v s1 ⟨x, H1, I1, r1, a, xs, G, e, sg, g, q⟩ => ?_⟩
  subst e
  cases r1
  have fp : ∀ b ∈ [s1.heap.objs.size], FpOk X pins H1 b := fun b hb => by
    rw [List.mem_singleton.mp hb]
    exact I1.fpOk (Nat.le_refl _) (I1.hok.fresh (Nat.le_refl _))
  have up : ∀ (o : Obj), Inv X pins σ H1 { s1 with heap := s1.heap.push o } := fun o => I1.kept (t' := s1.toks) fun b u e => Heap.get?_push_of_some _ e
  rcases sg with sg | sg
  · obtain ⟨its, rv, p, _⟩ := I1.list (sg H1 g)
    refine wpAny_pyIter_list p.isList ⟨s1.heap.objs.size, [s1.heap.objs.size], _, _, H1, rfl, up _, turn_to (J' := ItG G xs) (turn_list a _) (fun i H ⟨hi, g⟩ => ⟨xs, xs[i], sg H g, List.getElem?_eq_getElem hi⟩) (fun i H x H' ⟨_, g⟩ y => ⟨y.1, y.2 xs (sg H g)⟩) (fun i H ⟨e, g⟩ => ⟨xs, sg H g, Nat.le_of_eq e.symm⟩), ⟨_, Heap.get?_push_size _ rfl, rfl, rfl⟩, fp, q⟩
  · obtain ⟨its, rv, p, _⟩ := I1.tuple (sg H1 g)
    refine wpAny_pyIter_tuple (show s1.heap.IsTuple a its.toArray from p) ⟨s1.heap.objs.size, [s1.heap.objs.size], _, _, H1, rfl, up _, turn_to (J' := ItG G xs) (turn_tuple a _) (fun i H ⟨hi, g⟩ => ⟨xs, xs[i], sg H g, List.getElem?_eq_getElem hi⟩) (fun i H x H' ⟨_, g⟩ y => ⟨y.1, y.2 xs (sg H g)⟩) (fun i H ⟨e, g⟩ => ⟨xs, sg H g, Nat.le_of_eq e.symm⟩), ⟨_, Heap.get?_push_size _ rfl, rfl, rfl⟩, fp, q⟩
theorem pi_tupK {X : Cx} {K : PySem.W.Frag} {tg l : Expr} {tl : TE} (h : X.K = K) (hl : PE X l tl) : PI X tg l (iTup K tl) := h ▸ pi_tup hl
def rListOf (K : PySem.W.Frag) : List V → Hp → VK → Prop := fun xs H Q => ∃ p ys, xs = [.ref p] ∧ (SqL K H p ys ∨ SqT K H p ys) ∧ ∀ l, H l = none → Q (.ref l) (upd H l (.lst ys))
theorem call_list_ofK {X : Cx} {K : PySem.W.Frag} (h : X.K = K) : CallR X (.type "list") (rListOf K) := h ▸ call_list_of
/-! ### tuple * number, also once -/
theorem mul_once (l : Addr) (items : Array Value) (n : Nat) (dd : Option Addr) (sl : Array (Option Value)) (u : Tok) :
    Meets (Builtin.«tuple.__mul__» ⟨[.ref l, .int 1 u], []⟩) (fun _ R s => s.heap.get? l = some { cls := .type "tuple", dict := dd, data := .seq items n, slots := sl } ∧ R (.ok (.ret (Value.ref l))) s) :=
  .of_wp fun prog w A R s h => by
    obtain ⟨hp, g, d, tk, os⟩ := s
    obtain ⟨hl, h⟩ := h
    have f1 := AutoSeq1.idx_int
    have c0 : (decide ((1 : Int) < -(2 ^ 63)) || decide ((1 : Int) ≥ 2 ^ 63)) = false := by decide
    have c1 : (items.isEmpty || (1 : Int) == 1) = true := by cases items.isEmpty <;> rfl
    wp_walk using wpAny_loadPart' hl
    repeat (first
      | (refine wpAny_ite_false (decide_eq_false (by rw [c0]; exact Bool.false_ne_true)) ?_; wp_walk using wpAny_loadPart' hl)
      | (refine wpAny_ite_true (decide_eq_true c1) ?_; wp_walk using wpAny_loadPart' hl))
    exact ⟨_, rfl, h⟩
def rRep1 (K : PySem.W.Frag) : R2 := fun x y H Q => ∃ (l : Addr) (k : Int) (xs : List V), x = .ref l ∧ y = .int k ∧ SqT K H l xs ∧ xs ≠ [] ∧ 1 ≤ k ∧ k ≤ 1000 ∧ xs.length ≤ 1000 ∧ (k = 1 → Q (.ref l) H) ∧ (2 ≤ k → ∀ p, H p = none → Q (.ref p) (upd H p (.tup (List.replicate k.toNat xs).flatten)))
theorem op_rep1 {X : Cx} : OpR X (binaryOp .Mult) (rRep1 X.K) := by
  intro pins s σ H x y v u Q I rx ry h
  obtain ⟨l, k, xs, rfl, rfl, hT, hne, h1, h2, hz, q1, q2⟩ := h
  by_cases c : k = 1
  · subst c
    cases rx
    obtain ⟨t, rfl⟩ := ry
    obtain ⟨its, r, ⟨⟨cls, dd, data, sl⟩, ho, hc, n, hd⟩, hs⟩ := I.tuple hT
    simp only at hc hd
    subst hc hd
    exact wpAny_binaryOp_repeat_ref (T := "tuple") (U := "int") (by decide) ⟨_, ho, rfl⟩ (fun s' => typeIs_int s' 1 t) noFill_tuple_mul F.fills_int_mul F.slot_int_rmul repeat_tuple F.slot_int_index.lookup
      (call_meets F.slot_int_rmul (typeIs_int s 1 t) F.entry_int_rmul (F.args_int_rmul_2 _ _) (int_rmul_tuple 1 t l its.toArray n dd sl)
        ⟨ho, rfl, ⟨_, ho, rfl⟩, call_meets F.slot_tuple_mul ⟨_, ho, rfl⟩ F.entry_tuple_mul (F.args_tuple_mul_2 _ _) (mul_once l its.toArray n dd sl t) ⟨ho, ⟨.ref l, H, I, rfl, q1 rfl⟩⟩⟩)
  · exact op_repT pins s σ H _ _ v u Q I rx ry ⟨l, k, xs, rfl, rfl, hT, hne, by omega, h2, hz, q2 (by omega)⟩
theorem paired_app {α β : Type} {F : α → β → Prop} : ∀ {a c : List α} {b d : List β}, Paired F a b → Paired F c d → Paired F (a ++ c) (b ++ d)
  | _, _, _, _, .nil, s => s
  | _, _, _, _, .cons r t, s => .cons r (paired_app t s)
/-! ### rows of field elements -/
def row (ns : List Int) : Row := fun i => ns.getD i 0
def Fe (p : Int) (ns : List Int) : Prop := ∀ a ∈ ns, 0 ≤ a ∧ a < p
theorem row_get {ns : List Int} {i : Nat} {a : Int} (h : ns[i]? = some a) : row ns i = a := by
  unfold row
  rw [List.getD_eq_getElem?_getD, h]
  rfl
theorem row_at {ns : List Int} {i : Nat} (h : i < ns.length) : ns[i]? = some (row ns i) := by
  unfold row
  rw [List.getD_eq_getElem?_getD, List.getElem?_eq_getElem h]
  rfl
theorem row_out {ns : List Int} {i : Nat} (h : ns.length ≤ i) : row ns i = 0 := by
  unfold row
  rw [List.getD_eq_getElem?_getD, List.getElem?_eq_none h]
  rfl
theorem Fe.row {p : Int} {ns : List Int} (h : Fe p ns) {i : Nat} (hi : i < ns.length) : 0 ≤ row ns i ∧ row ns i < p := h _ (by
  have e := row_at hi
  exact (List.getElem?_eq_some_iff.mp e).2 ▸ List.getElem_mem _)
theorem row_int {ns : List Int} {i : Nat} (h : i < ns.length) : (ns.map V.int)[i]? = some (.int (row ns i)) := by
  rw [List.getElem?_map, row_at h]
  rfl
theorem atI_row {ns : List Int} {i : Nat} (h : i < ns.length) : atI (ns.map V.int) (i : Int) = some (.int (row ns i)) := atI_nat (row_int h)
theorem Fe.mod {p : Int} (hp : 0 < p) (f : Int → Int) (ns : List Int) : Fe p (ns.map fun a => f a % p) := fun a m => by
  obtain ⟨b, _, rfl⟩ := List.mem_map.mp m
  exact ⟨Int.emod_nonneg _ (by omega), Int.emod_lt_of_pos _ hp⟩
theorem row_map {f : Int → Int} {ns : List Int} {i : Nat} (h : i < ns.length) : row (ns.map f) i = f (row ns i) := by
  refine row_get ?_
  rw [List.getElem?_map, row_at h]
  rfl
theorem row_zip {f : Int → Int → Int} {ns ms : List Int} {i : Nat} (h : i < ns.length) (h2 : i < ms.length) : row (List.zipWith f ns ms) i = f (row ns i) (row ms i) := by
  refine row_get ?_
  rw [List.getElem?_zipWith, row_at h, row_at h2]
theorem emod_dvd (p a : Int) : p ∣ a % p - a := by
  rw [Int.emod_def]
  exact ⟨-(a / p), by grind⟩
/-! ### leading equations, in the heap -/
structure Ent where
  c : Nat
  b : Addr
  es : List Int
def EntOk (p : Int) (N : Nat) (H : Hp) (e : Ent) : Prop := H e.b = some (.lst (e.es.map V.int)) ∧ e.es.length = N ∧ Fe p e.es ∧ e.c < N ∧ Begins e.c (row e.es)
def kvE (E : List Ent) : List (Key × V) := E.map fun e => (Sum.inl (e.c : Int), V.ref e.b)
theorem kvE_none {E : List Ent} {c : Nat} : valV (kvE E) (Sum.inl (c : Int)) = none ↔ ∀ e ∈ E, e.c ≠ c := by
  unfold kvE
  induction E with
  | nil => exact ⟨fun _ e m => absurd m List.not_mem_nil, fun _ => rfl⟩
  | cons a E ih =>
    rw [List.map_cons]
    by_cases h : a.c = c
    · rw [valV_pos (p := (Sum.inl (a.c : Int), V.ref a.b)) (by rw [h])]
      exact ⟨(fun z => by cases z), fun z => absurd h (z a List.mem_cons_self)⟩
    · rw [valV_neg (p := (Sum.inl (a.c : Int), V.ref a.b)) (by
        intro z
        have z2 : (a.c : Int) = (c : Int) := Sum.inl.inj z
        omega), ih]
      exact ⟨fun z e m => by
        rcases List.mem_cons.mp m with rfl | m
        · exact h
        · exact z e m, fun z e m => z e (List.mem_cons_of_mem _ m)⟩
theorem kvE_some {E : List Ent} {c : Nat} {v : V} (h : valV (kvE E) (Sum.inl (c : Int)) = some v) : ∃ e ∈ E, e.c = c ∧ v = .ref e.b := by
  unfold kvE at h
  induction E with
  | nil => cases h
  | cons a E ih =>
    rw [List.map_cons] at h
    by_cases k : a.c = c
    · rw [valV_pos (p := (Sum.inl (a.c : Int), V.ref a.b)) (by rw [k])] at h
      cases h
      exact ⟨a, List.mem_cons_self, k, rfl⟩
    · rw [valV_neg (p := (Sum.inl (a.c : Int), V.ref a.b)) (by
        intro z
        have z2 : (a.c : Int) = (c : Int) := Sum.inl.inj z
        omega)] at h
      obtain ⟨e, m, r⟩ := ih h
      exact ⟨e, List.mem_cons_of_mem _ m, r⟩
/-- v kills all rows -/
def Kl (p : Int) (N : Nat) (v : Nat → Int) (R : List (List Int)) : Prop := ∀ ns ∈ R, p ∣ dot N (row ns) v
def KlE (p : Int) (N : Nat) (v : Nat → Int) (E : List Ent) : Prop := ∀ e ∈ E, p ∣ dot N (row e.es) v
theorem KlE.snoc {p : Int} {N : Nat} {v : Nat → Int} {E : List Ent} {e : Ent} : KlE p N v (E ++ [e]) ↔ KlE p N v E ∧ p ∣ dot N (row e.es) v :=
  ⟨fun h => ⟨fun x m => h x (List.mem_append_left _ m), h e (List.mem_append_right _ List.mem_cons_self)⟩, fun h x m => by
    rcases List.mem_append.mp m with m | m
    · exact h.1 x m
    · rw [List.mem_singleton.mp m]
      exact h.2⟩
theorem Kl.snoc {p : Int} {N : Nat} {v : Nat → Int} {R : List (List Int)} {ns : List Int} : Kl p N v (R ++ [ns]) ↔ Kl p N v R ∧ p ∣ dot N (row ns) v :=
  ⟨fun h => ⟨fun x m => h x (List.mem_append_left _ m), h ns (List.mem_append_right _ List.mem_cons_self)⟩, fun h x m => by
    rcases List.mem_append.mp m with m | m
    · exact h.1 x m
    · rw [List.mem_singleton.mp m]
      exact h.2⟩
theorem dot_zero {N : Nat} {e v : Nat → Int} (h : ∀ k, k < N → e k = 0) : dot N e v = 0 := sumF_zero fun k hk => by rw [h k hk, Int.zero_mul]
/-! ### keyword arguments of three, in the reverse order -/
theorem kb3r {K : PySem.W.Frag} {x a b c : Str} {st : Stmt} {f : Addr} {fd : FuncData} (F : Fun K x x st f fd)
    (h : ∀ (kV doc pm : Value) (an : Option Addr) (cdv ct u v w : Value), bindArgs (PySem.W.fnOf x x (defArgs st) (defBody st) (defScope st) .none kV doc pm an cdv ct) ⟨[], [(c, w), (b, v), (a, u)]⟩ = pure [(a, u), (b, v), (c, w)]) :
    KBinds K fd [a, b, c] [c, b, a] (fun us ws => if us.isEmpty then ws.reverse else []) (fun us ws => if us.isEmpty then ws.reverse else []) := by
  obtain ⟨oc, od, kV, doc, pm, an, cdv, ct, osl, rfl, lk, hcd⟩ := F.ex
  refine ⟨fun s us ws _ hl => ?_, fun {vs us zs ws} r rz => ?_⟩
  · cases us with
    | cons u r =>
      rw [show (u :: r).isEmpty = false from rfl, if_neg Bool.false_ne_true] at hl
      cases hl
    | nil =>
      rw [show ([] : List Value).isEmpty = true from rfl, if_pos rfl, List.length_reverse] at hl
      match ws, hl with
      | [_, _, _], _ => exact .of_eq (h ..)
  · cases r with
    | nil =>
      show Vals zs.reverse ws.reverse
      exact vals_rev rz
    | cons _ _ => exact .nil
end Lj
set_option Elab.async false
set_option linter.all false
set_option maxRecDepth 100000
set_option pp.maxSteps 500
set_option pp.deepTerms.threshold 8
set_option pp.deepTerms false
namespace Lj
open PySem PySem.Spec PyProof.Rows L2
/-! ### which data are instructions -/
def isBd (lo hi : Int) : PyData → Bool
  | .int i => decide (lo ≤ i) && decide (i ≤ hi)
  | _ => false
/-- how many registers follow a word, and the least field element behind them -/
def shp (w : Str) : Option (Nat × Option Int) :=
  if w = "set" then some (1, some 0) else if w = "copy" then some (2, none) else if w = "add" then some (2, some 1) else if w = "scale" then some (1, some 0) else if w = "swap" then some (2, none) else if w = "read" then some (1, none) else if w = "write" then some (1, none) else none
def sameI : PyData → PyData → Bool
  | .int i, .int j => decide (i = j)
  | _, _ => false
def regsD (n : Int) (ds : List PyData) : Bool := ds.all (isBd 0 (n - 1)) && (match ds with
  | a :: b :: _ => !sameI a b
  | _ => true)
def shapeD (p n : Int) (s : Nat × Option Int) (ds : List PyData) : Bool := match s.2 with
  | none => decide (ds.length = s.1) && regsD n ds
  | some c => decide (ds.length = s.1 + 1) && (regsD n (ds.take s.1) && isBd c (p - 1) (ds.getD s.1 .none))
def okBl (f : PyData → Bool) : PyData → Bool
  | .tuple bs => bs.all f
  | _ => false
def okS (p n : Int) (lp : List PyData → Bool) : PyData → Bool
  | .tuple (.str w :: ds) => if w = "loop" then lp ds else match shp w with
    | none => false
    | some s => shapeD p n s ds
  | _ => false
def lpD (p : Int) (f : PyData → Bool) : List PyData → Bool
  | [k, b] => isBd 0 (10 ^ 18) k && okBl f b
  | _ => false
def okI (p n : Int) : Nat → PyData → Bool
  | 0 => okS p n fun _ => false
  | lv + 1 => okS p n (lpD p (okI p n lv))
/-! ### measures -/
mutual
/-- the longest list or tuple within -/
def lx : PyData → Nat
  | .list ds => max ds.length (lxs ds)
  | .tuple ds => max ds.length (lxs ds)
  | _ => 0
def lxs : List PyData → Nat
  | [] => 0
  | d :: ds => max (lx d) (lxs ds)
end
theorem lxs_mem : ∀ {ds : List PyData} {d : PyData}, d ∈ ds → lx d ≤ lxs ds
  | a :: ds, d, h => by
    rw [lxs]
    rcases List.mem_cons.mp h with rfl | h
    · exact Nat.le_max_left _ _
    · exact Nat.le_trans (lxs_mem h) (Nat.le_max_right _ _)
theorem lx_tup {ds : List PyData} {d : PyData} (h : d ∈ ds) : lx d ≤ lx (.tuple ds) := by
  rw [lx]
  exact Nat.le_trans (lxs_mem h) (Nat.le_max_right _ _)
theorem lx_len (ds : List PyData) : ds.length ≤ lx (.tuple ds) := by
  rw [lx]
  exact Nat.le_max_left _ _
/-! ### instructions are trees -/
theorem DdAll.length {K : PySem.W.Frag} {H : Hp} : ∀ {vs : List V} {ds : List PyData}, DdAll K H vs ds → vs.length = ds.length
  | _, _, .nil => rfl
  | _, _, .cons _ t => by rw [List.length_cons, List.length_cons, DdAll.length t]
theorem DdAll.get {K : PySem.W.Frag} {H : Hp} : ∀ {vs : List V} {ds : List PyData} {i : Nat} {v : V}, DdAll K H vs ds → vs[i]? = some v → ∃ d, ds[i]? = some d ∧ Dd K H v d
  | _, _, 0, _, .cons h _, e => by
    cases e
    exact ⟨_, rfl, h⟩
  | _, _, i + 1, _, .cons _ t, e => DdAll.get (i := i) t e
theorem isBd_int {lo hi : Int} {d : PyData} (h : isBd lo hi d = true) : ∃ i, d = .int i ∧ lo ≤ i ∧ i ≤ hi := by
  cases d with
  | int i =>
    have h : (decide (lo ≤ i) && decide (i ≤ hi)) = true := h
    rw [Bool.and_eq_true] at h
    exact ⟨i, rfl, of_decide_eq_true h.1, of_decide_eq_true h.2⟩
  | _ => cases h
/-- all of them are numbers -/
def Ints (ds : List PyData) (as : List Int) : Prop := ds = as.map .int
theorem ints_of : ∀ {ds : List PyData} {lo hi : Int}, ds.all (isBd lo hi) = true → ∃ as : List Int, ds = as.map .int
  | [], _, _, _ => ⟨[], rfl⟩
  | d :: ds, lo, hi, h => by
    rw [List.all_cons, Bool.and_eq_true] at h
    obtain ⟨i, rfl, _⟩ := isBd_int h.1
    obtain ⟨as, rfl⟩ := ints_of h.2
    exact ⟨i :: as, rfl⟩
theorem regs_ints {n : Int} {ds : List PyData} (h : regsD n ds = true) : ∃ as : List Int, ds = as.map .int := by
  unfold regsD at h
  rw [Bool.and_eq_true] at h
  exact ints_of h.1
theorem shape_ints {p n : Int} {s : Nat × Option Int} {ds : List PyData} (h : shapeD p n s ds = true) : ∃ as : List Int, ds = as.map .int := by
  unfold shapeD at h
  split at h
  · rw [Bool.and_eq_true] at h
    exact regs_ints h.2
  · rename_i c e
    rw [Bool.and_eq_true, Bool.and_eq_true] at h
    have hl := of_decide_eq_true h.1
    obtain ⟨as, ea⟩ := regs_ints h.2.1
    obtain ⟨i, ei, _⟩ := isBd_int h.2.2
    have lt : s.1 < ds.length := by omega
    have split_ : ds = ds.take s.1 ++ [ds.getD s.1 .none] := by
      rw [List.getD_eq_getElem?_getD, List.getElem?_eq_getElem lt]
      show ds = ds.take s.1 ++ [ds[s.1]]
      rw [List.take_append_getElem lt]
      exact (List.take_of_length_le (by omega)).symm
    refine ⟨as ++ [i], ?_⟩
    rw [split_, ea, ei, List.map_append]
    rfl
theorem dd_ints {K : PySem.W.Frag} {H : Hp} : ∀ {vs : List V} {as : List Int}, DdAll K H vs (as.map .int) → vs = as.map V.int
  | _, [], h => by
    cases h
    rfl
  | _, a :: as, h => by
    cases h with
    | cons h t =>
      cases h
      rw [dd_ints t]
      rfl
theorem shp_noloop {w : Str} {s : Nat × Option Int} (h : shp w = some s) : w ≠ "loop" := fun e => by
  subst e
  have z : shp "loop" = none := by decide
  rw [z] at h
  cases h
theorem okS_cases {p n : Int} {lp : List PyData → Bool} {d : PyData} (h : okS p n lp d = true) : ∃ (w : Str) (ds : List PyData), d = .tuple (.str w :: ds) ∧ ((w = "loop" ∧ lp ds = true) ∨ (w ≠ "loop" ∧ ∃ as : List Int, ds = as.map .int)) := by
  unfold okS at h
  split at h
  · rename_i w ds
    refine ⟨w, ds, rfl, ?_⟩
    by_cases c : w = "loop"
    · rw [if_pos c] at h
      exact .inl ⟨c, h⟩
    · rw [if_neg c] at h
      split at h
      · cases h
      · exact .inr ⟨c, shape_ints h⟩
  · cases h
theorem tr_of {K : PySem.W.Frag} {H : Hp} {p n : Int} : ∀ (lv : Nat) {d : PyData} {v : V}, okI p n lv d = true → Dd K H v d → lx d ≤ 1000 → ∃ t : Tr, TrAt K H t v ∧ t.wf lv := by
  intro lv
  induction lv with
  | zero =>
    intro d v h dd hl
    obtain ⟨w, ds, rfl, h2⟩ := okS_cases h
    clear h
    rcases h2 with ⟨_, z⟩ | ⟨c, as, rfl⟩
    · cases z
    · cases dd with
      | @tup a xs _ q r =>
        cases r with
        | cons h t =>
          cases h
          rw [dd_ints t] at q
          exact ⟨.op w as, by rw [TrAt]; exact ⟨a, rfl, q⟩, by rw [Tr.wf]; exact c⟩
  | succ lv ih =>
    intro d v h dd hl
    obtain ⟨w, ds, rfl, h2⟩ := okS_cases h
    clear h
    cases dd with
    | @tup a xs _ q r =>
      cases r with
      | @cons vw vs _ _ hw t =>
        cases hw
        rcases h2 with ⟨c, z⟩ | ⟨c, as, rfl⟩
        · subst c
          unfold lpD at z
          split at z
          · rename_i kd bd
            rw [Bool.and_eq_true] at z
            obtain ⟨i, rfl, i0, i1⟩ := isBd_int z.1
            have z2 := z.2
            unfold okBl at z2
            split at z2
            · rename_i bs
              cases t with
              | cons tk tb =>
                cases tk
                cases tb with
                | cons tb te =>
                  cases te
                  cases tb with
                  | @tup c ys _ qb rb =>
                    have lb : lx (.tuple bs) ≤ 1000 := Nat.le_trans (lx_tup (ds := [.str "loop", .int i, .tuple bs]) (by simp)) hl
                    have all_ : ∀ {ys : List V} {bs : List PyData}, DdAll K H ys bs → bs.all (okI p n lv) = true → (∀ d ∈ bs, lx d ≤ 1000) → ∃ b : List Tr, TrsAt K H b ys ∧ wfs b lv := by
                      intro ys bs
                      induction bs generalizing ys with
                      | nil =>
                        intro r _ _
                        cases r
                        exact ⟨[], TrsAt.nil, by rw [wfs]; trivial⟩
                      | cons e bs ihb =>
                        intro r z l
                        rw [List.all_cons, Bool.and_eq_true] at z
                        cases r with
                        | cons h t =>
                          obtain ⟨t1, a1, w1⟩ := ih z.1 h (l e List.mem_cons_self)
                          obtain ⟨b1, a2, w2⟩ := ihb t z.2 fun d m => l d (List.mem_cons_of_mem _ m)
                          exact ⟨t1 :: b1, by rw [TrsAt]; exact ⟨_, _, rfl, a1, a2⟩, by rw [wfs]; exact ⟨w1, w2⟩⟩
                    obtain ⟨b, tb, wb⟩ := all_ rb z2 fun d m => Nat.le_trans (lx_tup m) lb
                    refine ⟨.loop i b, by rw [TrAt]; exact ⟨a, c, ys, rfl, q, qb, tb⟩, ?_⟩
                    rw [Tr.wf]
                    refine ⟨i0, i1, ?_, wb⟩
                    rw [← tb.length, rb.length]
                    exact Nat.le_trans (lx_len bs) lb
            · cases z2
          · cases z
        · rw [dd_ints t] at q
          exact ⟨.op w as, by rw [TrAt]; exact ⟨a, rfl, q⟩, by rw [Tr.wf]; exact c⟩
theorem trs_of {K : PySem.W.Frag} {H : Hp} {p n : Int} {lv : Nat} {d : PyData} {v : V} (h : okBl (okI p n lv) d = true) (dd : Dd K H v d) (hl : lx d ≤ 1000) : ∃ b : List Tr, BodyAt K H b v ∧ okB (lv + 1) b := by
  unfold okBl at h
  split at h
  · rename_i bs
    cases dd with
    | @tup c ys _ q r =>
      have all_ : ∀ {ys : List V} {bs : List PyData}, DdAll K H ys bs → bs.all (okI p n lv) = true → (∀ d ∈ bs, lx d ≤ 1000) → ∃ b : List Tr, TrsAt K H b ys ∧ wfs b lv := by
        intro ys bs
        induction bs generalizing ys with
        | nil =>
          intro r _ _
          cases r
          exact ⟨[], TrsAt.nil, by rw [wfs]; trivial⟩
        | cons e bs ihb =>
          intro r z l
          rw [List.all_cons, Bool.and_eq_true] at z
          cases r with
          | cons h t =>
            obtain ⟨t1, a1, w1⟩ := tr_of lv z.1 h (l e List.mem_cons_self)
            obtain ⟨b1, a2, w2⟩ := ihb t z.2 fun d m => l d (List.mem_cons_of_mem _ m)
            exact ⟨t1 :: b1, by rw [TrsAt]; exact ⟨_, _, rfl, a1, a2⟩, by rw [wfs]; exact ⟨w1, w2⟩⟩
      obtain ⟨b, tb, wb⟩ := all_ r h fun d m => Nat.le_trans (lx_tup m) hl
      refine ⟨b, ⟨c, ys, rfl, q, tb⟩, wb, ?_⟩
      rw [← tb.length, r.length]
      exact Nat.le_trans (lx_len bs) hl
  · cases h
/-! ### t == (), whatever t holds -/
def rEq0 (K : PySem.W.Frag) : R2 := fun x y H Q => ∃ (a b : Addr) (xs : List V), x = .ref a ∧ y = .ref b ∧ SqT K H a xs ∧ SqT K H b [] ∧ Q (.bl xs.isEmpty) H
theorem op_eq0 {X : Cx} (hu : X.A.units + 64 < cLine) : OpR X (compareOp .Eq) (rEq0 X.K) := by
  intro pins s σ H x y v u Q I rx ry h
  obtain ⟨a, b, xs, rfl, rfl, sa, sb, q⟩ := h
  cases rx
  cases ry
  obtain ⟨its, r, p, _⟩ := I.tuple sa
  obtain ⟨its2, r2, p2, _⟩ := I.tuple sb
  cases r2
  refine SeqAt.eq_tupleAt (e := fun _ => true) (show s.heap.IsTuple a its.toArray from p) (show s.heap.IsTuple b ([] : List Value).toArray from p2) (by omega) (fun j h1 h2 => absurd h2 (Nat.not_lt_zero _)) ⟨.bl _, H, I, rfl, ?_⟩
  have e : ((List.range (min its.toArray.size ([] : List Value).toArray.size)).all (fun _ => true) && its.toArray.size == ([] : List Value).toArray.size) = xs.isEmpty := by
    rw [List.size_toArray, ← r.length]
    cases xs with
    | nil => rfl
    | cons x xs =>
      rw [List.length_cons]
      simp
  rw [e]
  exact q
end Lj
set_option Elab.async false
set_option linter.all false
set_option maxRecDepth 100000
set_option pp.maxSteps 500
set_option pp.deepTerms.threshold 8
set_option pp.deepTerms false
namespace Lj
open PySem PySem.Spec PyProof.Rows L2 HT
/-! ### t[::-1], t a tuple -/
section
variable {prog : Program} {w : World} {A : Around} {E : Value → Shared → Prop} {s : Shared}
theorem sliceApplied_rev {sl : Addr} {vl vu vs : Value} {n : Nat} {Q : Int × Int × Nat → Shared → Prop} (hs : s.heap.IsSliceOf sl vl vu vs) (pl : IsPart vl none) (pu : IsPart vu none) (ps : IsPart vs (some (-1)))
    (h : Q ((n : Int) - 1, -1, n) s) : wpAny (model prog w) A (Builtin.Slice.sliceApplied (.ref sl) (pure (n : Int))) Q E s := by
  obtain ⟨os, hos, hcs, hds⟩ := id hs
  unfold Builtin.Slice.sliceApplied Builtin.Slice.sliceFields
  refine wpAny_bind (wpAny_bind (wpAny_field hos hds (x := vl) rfl (wpAny_bind (wpAny_field hos hds (x := vu) rfl (wpAny_bind (wpAny_field hos hds (x := vs) rfl (wpAny_pure ?_)))))))
  refine wpAny_bind (slicePart_ ps ?_)
  show wpAny _ _ (if ((-1 : Int) == 0) = true then _ else _) _ _ s
  rw [if_neg (by decide)]
  refine wpAny_bind (slicePart_ pl (wpAny_bind (slicePart_ pu (wpAny_bind (wpAny_pure ?_)))))
  show wpAny _ _ (match Builtin.Slice.sliceAdjust none none (-1) (n : Int) with | (lo, hi) => pure (lo, (-1 : Int), Builtin.Slice.slicePlaces lo hi (-1))) _ _ s
  have e : Builtin.Slice.sliceAdjust none none (-1) (n : Int) = ((n : Int) - 1, -1) := rfl
  rw [e]
  show wpAny _ _ (pure ((n : Int) - 1, (-1 : Int), Builtin.Slice.slicePlaces ((n : Int) - 1) (-1) (-1))) _ _ s
  have e2 : Builtin.Slice.slicePlaces ((n : Int) - 1) (-1) (-1) = n := by
    unfold Builtin.Slice.slicePlaces
    have h1 : ¬ ((-1 : Int) > 0) := by omega
    have h2 : (- -1 : Int) = 1 := by decide
    simp only [h1, if_false, h2, Int.ediv_one]
    split <;> omega
  rw [e2]
  exact wpAny_pure h
theorem pick_rev (xs : Array Value) : ((List.range xs.size).filterMap fun (m : Nat) => xs[((xs.size : Int) - 1 + (m : Int) * (-1)).toNat]?).toArray = xs.toList.reverse.toArray := by
  have e : (List.range xs.size).filterMap (fun (m : Nat) => xs[((xs.size : Int) - 1 + (m : Int) * (-1)).toNat]?) = ((List.range xs.size).map fun k => xs.size - 1 - k).filterMap (xs[·]?) := by
    rw [List.filterMap_map]
    congr 1
    funext m
    show xs[((xs.size : Int) - 1 + (m : Int) * (-1)).toNat]? = xs[xs.size - 1 - m]?
    have : ((xs.size : Int) - 1 + (m : Int) * (-1)).toNat = xs.size - 1 - m := by omega
    rw [this]
  rw [e, PySem.W.krv_range, List.filterMap_reverse, PySem.W.krv_all]
theorem getItem_tuple_rev {t sl : Addr} {items : Array Value} {vl vu vs : Value} {Q : Value → Shared → Prop} (ht : IsTup s.heap t items) (hs : s.heap.IsSliceOf sl vl vu vs) (pl : IsPart vl none) (pu : IsPart vu none) (ps : IsPart vs (some (-1)))
    (h : Q (.ref s.heap.objs.size) { s with heap := s.heap.push { cls := .type "tuple", data := .seq items.toList.reverse.toArray } })
    (hsz : items.size ≤ sizeLine) : wpAny (model prog w) A (getItem (.ref t) (.ref sl)) Q E s := by
  have htake : sizeOk (.seq items.toList.reverse.toArray) := by
    show items.toList.reverse.toArray.size ≤ sizeLine
    rw [List.size_toArray, List.length_reverse, Array.length_toList]
    exact hsz
  obtain ⟨os, hos, hcs, hds⟩ := id hs
  have hTs : s.TypeIs (.ref sl) "slice" := ⟨os, hos, hcs⟩
  unfold getItem
  try with_reducible refine wpAny_holding ?_
  first | refine wpAny_bind (wpAny_pure ?_) | skip
  refine wpAny_bind (wpAny_sequenceKey ht.typeIs (by decide) ?_)
  refine wpAny_bind (wpAny_callSpecial?_slot (name := Str.ofString "__getitem__") ht.typeIs PyProof.Rows.slot_tuple_getitem
    (wpAny_call_entry PyProof.Rows.slot_tuple_getitem ht.typeIs entry_tuple_getitem ?_ (args_tuple_getitem _ _)))
  show wpAny _ _ (Builtin.Tuple.tupleItemsOf (.ref t) >>= _) _ _ s
  refine wpAny_bind (tupleItemsOf_ ht ?_)
  refine wpAny_bind (wpAny_typeOf hTs ?_)
  rw [if_pos (by decide)]
  refine wpAny_bind (sliceApplied_rev hs pl pu ps ?_)
  have hno : ¬ ((((items.size : Int) - 1) == 0 && (-1 : Int) == 1 && items.size == items.size) = true) := by
    intro q
    rw [Bool.and_eq_true, Bool.and_eq_true] at q
    exact absurd q.1.2 (by decide)
  show wpAny _ _ (if (((items.size : Int) - 1) == 0 && (-1 : Int) == 1 && items.size == items.size) = true then _ else _) _ _ s
  rw [if_neg hno, pick_rev]
  first
    | exact wpAny_bind (m := Builtin.Tuple.tupleExact _) (wpAny_newObj_type (wpAny_pure ⟨_, rfl, wpAny_pure h⟩) htake)
    | exact wpAny_bind (m := Builtin.Tuple.tupleExact _) (wpAny_newObj_type (wpAny_bind (wpAny_pure (wpAny_pure ⟨_, rfl, wpAny_pure h⟩))) htake)
    | exact wpAny_bind (wpAny_bind (m := Builtin.Tuple.tupleExact _) (wpAny_newObj_type (wpAny_pure (wpAny_pure ⟨_, rfl, wpAny_pure h⟩)) htake))
    | exact wpAny_bind (wpAny_bind (m := Builtin.Tuple.tupleExact _) (wpAny_newObj_type (wpAny_pure ⟨_, rfl, wpAny_pure h⟩) htake))
end
def tRevT (K : PySem.W.Frag) (te : TE) : TE := fun σ H Q => te σ H fun x H1 => ∃ a xs, x = .ref a ∧ SqT K H1 a xs ∧ ∀ p, H1 p = none → Q (.ref p) (upd H1 p (.tup xs.reverse))
theorem pe_revT {X : Cx} {e : Expr} {te : TE} {k : Nat} {p1 p2 p3 pos : Pos} (he : PE X e te) : PE X (.Subscript e (.Slice none none (some (.UnaryOp .USub (.Constant (.int 1) k p1) p2)) p3) pos) (tRevT X.K te) := by
  refine ⟨fun pins s σ H Q I h => ?_⟩
  refine Subscript_ (thn (he.run pins s σ H _ I h) fun v s1 ⟨x, H1, I1, r1, q1⟩ => ?_)
  obtain ⟨a, xs, ex, hx, q⟩ := q1
  subst ex
  cases r1
  have hst : PO X (some (.UnaryOp .USub (.Constant (.int 1) k p1) p2)) (tPart (tUn (rU fun i => .int (-i)) (tC (.int 1)))) := po_some (pe_un un_neg pe_int)
  refine wpAny_Slice (thn (po_none.run pins s1 σ H1 (fun o H2 => o = none ∧ H2 = H1) I1 ⟨rfl, rfl⟩) fun vl s2 ⟨l, H2, I2, pl, el, e2⟩ => ?_)
  subst el e2
  refine thn (po_none.run pins s2 σ H2 (fun o H3 => o = none ∧ H3 = H2) I2 ⟨rfl, rfl⟩) fun vu s3 ⟨u, H3, I3, pu, eu, e3⟩ => ?_
  subst eu e3
  refine thn (hst.run pins s3 σ H3 (fun o H4 => o = some (-1) ∧ H4 = H3) I3 ⟨1, rfl, -1, rfl, rfl, rfl⟩) fun vs s4 ⟨o, H4, I4, ps, eo, e4⟩ => ?_
  subst eo e4
  have I5 : Inv X pins σ H4 { s4 with heap := s4.heap.push { cls := .type "slice", data := .fields #[vl, vu, vs] } } := I4.kept (t' := s4.toks) fun b ob q => Heap.get?_push_of_some _ q
  obtain ⟨its, r, ht, hz⟩ := I5.tuple hx
  have hlen := r.length
  show wpAny (model X.prog X.w) X.A (subscriptTail e (.Slice none none (some (.UnaryOp .USub (.Constant (.int 1) k p1) p2)) p3) (.ref a) (.ref s4.heap.objs.size)) (EP X pins σ Q) X.xe { s4 with heap := s4.heap.push { cls := .type "slice", data := .fields #[vl, vu, vs] } }
  refine tail_any (ops := [.ref a, .ref s4.heap.objs.size]) ht.typeIs (PyProof.Rows.slot_tuple_getitem.lookup) ?_ (by with_unfolding_all rfl)
  refine getItem_tuple_rev ht (Heap.IsSliceOf.new _ vl vu vs) pl pu ps ?_ (by rw [List.size_toArray]; omega)
  refine ⟨.ref _, _, I5.laid (t' := s4.toks) (o := .tup xs.reverse) (fun b ob q => Heap.get?_push_of_some _ q) (Nat.le_refl _) ?_, rfl, q _ (I5.hok.fresh (Nat.le_refl _))⟩
  exact ⟨by rw [List.length_reverse]; exact hz, _, r.reverse, IsTup.new _ _⟩
end Lj
set_option Elab.async false
set_option linter.all false
set_option maxRecDepth 100000
set_option pp.maxSteps 500
set_option pp.deepTerms.threshold 8
set_option pp.deepTerms false
namespace Lj
open PySem PySem.Spec PyProof.Rows L2
/-! ### the heap but for some places -/
def ban (B : List Addr) (H : Hp) : Hp := fun b => if b ∈ B then none else H b
def Held (B : List Addr) (H : Hp) : Prop := ∀ x ∈ B, ∃ o, H x = some o
theorem ban_on {B : List Addr} {H : Hp} : Same (ban B H) H := fun b o h => by
  unfold ban at h
  split at h
  · cases h
  · exact h
theorem ban_same {B : List Addr} {H H' : Hp} (s : Same H H') : Same (ban B H) (ban B H') := fun b o h => by
  unfold ban at h ⊢
  split at h
  · cases h
  · rename_i n
    rw [if_neg n]
    exact s _ _ h
theorem ban_but {B : List Addr} {u : Addr} {H H' : Hp} (hu : u ∈ B) (k : But u H H') : Same (ban B H) (ban B H') := fun b o h => by
  unfold ban at h ⊢
  split at h
  · cases h
  · rename_i n
    rw [if_neg n]
    exact k b o (fun e => n (e ▸ hu)) h
theorem Held.same {B : List Addr} {H H' : Hp} (h : Held B H) (s : Same H H') : Held B H' := fun x m => by
  obtain ⟨o, e⟩ := h x m
  exact ⟨o, s _ _ e⟩
theorem Held.but {B : List Addr} {u : Addr} {H H' : Hp} (h : Held B H) (k : But u H H') (e : ∃ o, H' u = some o) : Held B H' := fun x m => by
  by_cases c : x = u
  · subst c
    exact e
  · obtain ⟨o, e⟩ := h x m
    exact ⟨o, k _ _ c e⟩
theorem Held.no {B : List Addr} {H : Hp} {p : Addr} (h : Held B H) (n : H p = none) : p ∉ B := fun m => by
  obtain ⟨o, e⟩ := h p m
  rw [n] at e
  cases e
theorem ban_at {B : List Addr} {H : Hp} {p : Addr} {o : HO} (e : H p = some o) (n : p ∉ B) : ban B H p = some o := by
  unfold ban
  rw [if_neg n]
  exact e
theorem ban_new {B : List Addr} {H : Hp} {p : Addr} {o : HO} (h : Held B H) (n : H p = none) : ban B (upd H p o) p = some o := ban_at upd_same (h.no n)
/-! ### data, part by part -/
theorem DdAll.append {K : PySem.W.Frag} {H : Hp} : ∀ {xs ys : List V} {ds es : List PyData}, DdAll K H xs ds → DdAll K H ys es → DdAll K H (xs ++ ys) (ds ++ es)
  | _, _, _, _, .nil, h => h
  | _, _, _, _, .cons a t, h => .cons a (t.append h)
theorem DdAll.take {K : PySem.W.Frag} {H : Hp} : ∀ {xs : List V} {ds : List PyData} (i : Nat), DdAll K H xs ds → DdAll K H (xs.take i) (ds.take i)
  | _, _, 0, _ => .nil
  | _, _, i + 1, .nil => .nil
  | _, _, i + 1, .cons a t => .cons a (t.take i)
theorem DdAll.drop {K : PySem.W.Frag} {H : Hp} : ∀ {xs : List V} {ds : List PyData} (i : Nat), DdAll K H xs ds → DdAll K H (xs.drop i) (ds.drop i)
  | _, _, 0, h => h
  | _, _, i + 1, .nil => .nil
  | _, _, i + 1, .cons a t => t.drop i
theorem DdAll.reverse {K : PySem.W.Frag} {H : Hp} : ∀ {xs : List V} {ds : List PyData}, DdAll K H xs ds → DdAll K H xs.reverse ds.reverse
  | _, _, .nil => .nil
  | _, _, .cons a t => by
    rw [List.reverse_cons, List.reverse_cons]
    exact t.reverse.append (.cons a .nil)
theorem DdAll.mem {K : PySem.W.Frag} {H : Hp} : ∀ {xs : List V} {ds : List PyData} {x : V}, DdAll K H xs ds → x ∈ xs → ∃ d ∈ ds, Dd K H x d
  | _, _, _, .cons a t, m => by
    rcases List.mem_cons.mp m with rfl | m
    · exact ⟨_, List.mem_cons_self, a⟩
    · obtain ⟨d, m, h⟩ := t.mem m
      exact ⟨d, List.mem_cons_of_mem _ m, h⟩
theorem DdAll.same {K : PySem.W.Frag} {H H' : Hp} (s : Same H H') {vs : List V} {ds : List PyData} (h : DdAll K H vs ds) : DdAll K H' vs ds := h.kt (fun q => s.seq q) (fun q => tup_same s q) (fun q => s _ _ q)
/-! ### measures -/
mutual
def gd : PyData → Prop
  | .list ds => gds ds
  | .tuple ds => gds ds
  | .dict kvs => kvs = []
  | .none => True
  | .bool _ => True
  | .int i => Leaf (.int i)
  | .str x => Leaf (.str x)
def gds : List PyData → Prop
  | [] => True
  | d :: ds => gd d ∧ gds ds
end
mutual
def bt : PyData → Nat
  | .list ds => 5 + bts ds
  | .tuple ds => 5 + bts ds
  | .dict _ => 1923
  | .none => 1923
  | .bool _ => 1923
  | .int i => 1923
  | .str x => 1923
def bts : List PyData → Nat
  | [] => 0
  | d :: ds => bt d + bts ds
end
theorem leaf_bool (b : Bool) : Leaf (.bool b) := ⟨by rw [PyData.showable], by rw [PyData.hasDict], by rw [PyData.depth], by rw [PyData.shown]; cases b <;> decide⟩
mutual
theorem shown_bt : ∀ (d : PyData), gd d → d.showable = true ∧ d.shown.length + 2 ≤ bt d
  | .none, h => by
    obtain ⟨a, _, _, b⟩ := leaf_none
    rw [bt]
    exact ⟨a, by omega⟩
  | .bool x, h => by
    obtain ⟨a, _, _, b⟩ := leaf_bool x
    rw [bt]
    exact ⟨a, by omega⟩
  | .int i, h => by
    rw [gd] at h
    obtain ⟨a, _, _, b⟩ := h
    rw [bt]
    exact ⟨a, by omega⟩
  | .str x, h => by
    rw [gd] at h
    obtain ⟨a, _, _, b⟩ := h
    rw [bt]
    exact ⟨a, by omega⟩
  | .dict kvs, h => by
    rw [gd] at h
    subst h
    rw [bt]
    exact ⟨by rw [PyData.showable, PyData.showableKv], by rw [PyData.shown, PyData.shownKv]; decide⟩
  | .list ds, h => by
    rw [gd] at h
    obtain ⟨a, b, c⟩ := shown_bts ds h
    rw [bt]
    refine ⟨by rw [PyData.showable]; exact a, ?_⟩
    rw [PyData.shown]
    have := PySem.listText_len_le (PyData.shownAll ds)
    omega
  | .tuple ds, h => by
    rw [gd] at h
    obtain ⟨a, b, c⟩ := shown_bts ds h
    rw [bt]
    refine ⟨by rw [PyData.showable]; exact a, ?_⟩
    rw [PyData.shown]
    have := PySem.tupleText_len_le (PyData.shownAll ds)
    omega
theorem shown_bts : ∀ (ds : List PyData), gds ds → PyData.showableAll ds = true ∧ ((PyData.shownAll ds).map (·.length)).sum + 2 * ds.length ≤ bts ds ∧ (PyData.shownAll ds).length = ds.length
  | [], h => by
    rw [PyData.showableAll, PyData.shownAll, bts]
    exact ⟨rfl, Nat.le_refl _, rfl⟩
  | d :: ds, h => by
    rw [gds] at h
    obtain ⟨a, b⟩ := shown_bt d h.1
    obtain ⟨c, e, f⟩ := shown_bts ds h.2
    rw [PyData.showableAll, PyData.shownAll, bts, a, c, List.map_cons, List.sum_cons, List.length_cons, List.length_cons, f]
    exact ⟨rfl, by omega, rfl⟩
end
theorem gds_all : ∀ {ds : List PyData}, gds ds ↔ ∀ d ∈ ds, gd d
  | [] => by
    rw [gds]
    exact ⟨fun _ d m => (nomatch m), fun _ => trivial⟩
  | a :: ds => by
    rw [gds, gds_all, List.forall_mem_cons]
theorem bts_append : ∀ (a b : List PyData), bts (a ++ b) = bts a + bts b
  | [], b => by rw [List.nil_append, bts, Nat.zero_add]
  | x :: a, b => by rw [List.cons_append, bts, bts, bts_append a b, Nat.add_assoc]
theorem bts_cut (ds : List PyData) (i : Nat) : bts (ds.take i) + bts (ds.drop i) = bts ds := by
  rw [← bts_append, List.take_append_drop]
theorem bts_rev : ∀ (ds : List PyData), bts ds.reverse = bts ds
  | [] => rfl
  | x :: ds => by
    rw [List.reverse_cons, bts_append, bts_rev ds, bts, bts, bts]
    omega
theorem bts_mem : ∀ {ds : List PyData} {d : PyData}, d ∈ ds → bt d ≤ bts ds
  | a :: ds, d, m => by
    rw [bts]
    rcases List.mem_cons.mp m with rfl | m
    · omega
    · have := bts_mem m
      omega
theorem bts_at {ds : List PyData} {i : Nat} {d : PyData} (e : ds[i]? = some d) : bts (ds.take i) + bt d + bts (ds.drop (i + 1)) = bts ds := by
  obtain ⟨hi, hd⟩ := List.getElem?_eq_some_iff.mp e
  have h := bts_cut ds i
  rw [List.drop_eq_getElem_cons hi, hd, bts] at h
  omega
theorem dep_mem {ds : List PyData} {d : PyData} (m : d ∈ ds) : d.depth ≤ PyData.depthAll ds := PyData.depth_le_depthAll ds d m
theorem dep_all : ∀ {ds : List PyData} {n : Nat}, (∀ d ∈ ds, d.depth ≤ n) → PyData.depthAll ds ≤ n
  | [], n, _ => by rw [PyData.depthAll]; exact Nat.zero_le _
  | a :: ds, n, h => by
    rw [PyData.depthAll]
    exact Nat.max_le.mpr ⟨h a List.mem_cons_self, dep_all fun d m => h d (List.mem_cons_of_mem _ m)⟩
theorem lx_all : ∀ {ds : List PyData} {n : Nat}, (∀ d ∈ ds, lx d ≤ n) → lxs ds ≤ n
  | [], n, _ => by rw [lxs]; exact Nat.zero_le _
  | a :: ds, n, h => by
    rw [lxs]
    exact Nat.max_le.mpr ⟨h a List.mem_cons_self, lx_all fun d m => h d (List.mem_cons_of_mem _ m)⟩
/-- no more than this comes by one change -/
def Fit (d e : PyData) : Prop := gd e ∧ bt e ≤ 2 * bt d + 20000 ∧ e.depth ≤ d.depth + 2 ∧ lx e ≤ lx d + 4
theorem fits {ds es : List PyData} (h1 : ∀ e ∈ es, gd e ∧ e.depth ≤ PyData.depthAll ds + 2 ∧ lx e ≤ lx (.tuple ds) + 4) (h2 : bts es ≤ 2 * bts ds + 20000) (h3 : es.length ≤ ds.length + 1) : Fit (.tuple ds) (.tuple es) ∧ Fit (.tuple ds) (.list es) := by
  have a : gds es := gds_all.mpr fun e m => (h1 e m).1
  have b : PyData.depthAll es ≤ PyData.depthAll ds + 2 := dep_all fun e m => (h1 e m).2.1
  have c : lxs es ≤ lx (.tuple ds) + 4 := lx_all fun e m => (h1 e m).2.2
  have l := lx_len ds
  have d1 : PyData.depth (.tuple ds) = PyData.depthAll ds + 1 := by rw [PyData.depth]
  have d2 : PyData.depth (.tuple es) = PyData.depthAll es + 1 := by rw [PyData.depth]
  have d3 : PyData.depth (.list es) = PyData.depthAll es + 1 := by rw [PyData.depth]
  have x : max es.length (lxs es) ≤ lx (.tuple ds) + 4 := Nat.max_le.mpr ⟨by omega, c⟩
  refine ⟨⟨by rw [gd]; exact a, by rw [bt, bt]; omega, by omega, by rw [lx]; exact x⟩, ⟨by rw [gd]; exact a, by rw [bt, bt]; omega, by omega, by rw [lx]; exact x⟩⟩
theorem fit_of {ds : List PyData} (g : gd (.tuple ds)) {e : PyData} (m : e ∈ ds) : gd e ∧ e.depth ≤ PyData.depthAll ds + 2 ∧ lx e ≤ lx (.tuple ds) + 4 := by
  rw [gd] at g
  exact ⟨gds_all.mp g e m, by have := dep_mem m; omega, by have := lx_tup m; omega⟩
/-- what may be asked of a value -/
def Sm (d : PyData) : Prop := gd d ∧ bt d ≤ 10000000 ∧ d.depth ≤ 60 ∧ lx d ≤ 1000
theorem Sm.line {d : PyData} (h : Sm d) : d.showable = true ∧ d.depth ≤ 64 ∧ d.shown.length ≤ sizeLine := by
  obtain ⟨a, b⟩ := shown_bt d h.1
  have := h.2.1
  have := h.2.2.1
  exact ⟨a, by omega, by rw [sizeLine_eq]; omega⟩
end Lj
set_option Elab.async false
set_option linter.all false
set_option maxRecDepth 100000
set_option maxHeartbeats 1000000
namespace Lj
open PySem PySem.Spec PyProof.Rows L2
/-! ### sorted(d), d a dict whose keys are tuples of ints -/
def rSortDT (n : Nat) (B : Int) : List V → Hp → VK → Prop := fun vs H Q => ∃ (a : Addr) (kvs : List (List Key × V)), vs = [.ref a] ∧ Rd H a (.dT kvs) ∧ kvs.length < 64 ∧ (∀ kv ∈ kvs, ∃ ns : List Int, kv.1 = ns.map Sum.inl ∧ ns.length = n ∧ TS.Bd B ns) ∧
  ∀ (ys : List (Addr × List Int)) (p : Addr), (ys.map fun y => y.2.map (Sum.inl : Int → Key)).Perm (kvs.map (·.1)) → (ys.map fun y => y.2.map (Sum.inl : Int → Key)).Nodup → ys.Pairwise (fun x y => TS.code B x.2 ≤ TS.code B y.2) → (∀ y ∈ ys, H y.1 = some (.tup (y.2.map V.int)) ∧ y.2.length = n ∧ TS.Bd B y.2) → H p = none → Q (.ref p) (upd H p (.lst (ys.map fun y => V.ref y.1)))
def kInt : Key → Int
  | .inl i => i
  | .inr _ => 0
theorem kInt_map : ∀ ns : List Int, (ns.map (Sum.inl : Int → Key)).map kInt = ns
  | [] => rfl
  | n :: ns => by rw [List.map_cons, List.map_cons, kInt_map ns]; rfl
theorem kV_map : ∀ ns : List Int, (ns.map (Sum.inl : Int → Key)).map kV = ns.map V.int
  | [] => rfl
  | n :: ns => by rw [List.map_cons, List.map_cons, kV_map ns]; rfl
def adV : Value → Addr
  | .ref a => a
  | _ => 0
theorem kt_mem {H : Hp} {kvs : List (List Key × V)} {xs : List (List Key × Addr × Value)} (r : KT H kvs xs) : ∀ x ∈ xs, ∃ kv ∈ kvs, kv.1 = x.1 ∧ H x.2.1 = some (.tup (x.1.map kV)) := by
  induction r with
  | nil => intro x hx; exact nomatch hx
  | cons h t ih =>
    intro x hx
    rcases List.mem_cons.mp hx with rfl | hx
    · exact ⟨_, List.mem_cons_self, h.1, by rw [← h.1]; exact h.2.1⟩
    · obtain ⟨kv, m, e⟩ := ih x hx
      exact ⟨kv, List.mem_cons_of_mem _ m, e⟩
theorem kt_keys {H : Hp} {kvs : List (List Key × V)} {xs : List (List Key × Addr × Value)} (r : KT H kvs xs) : kvs.map (·.1) = xs.map (·.1) := by
  induction r with
  | nil => rfl
  | cons h t ih => rw [List.map_cons, List.map_cons, ih, h.1]
theorem cr_sortDT {X : Cx} {n : Nat} {B : Int} (calm : X.calm = true) (h1n : 1 ≤ n) : CallR X (.builtin "sorted") (rSortDT n B) := by
  intro pins s σ H vs us Q I r h
  obtain ⟨a, kvs, rfl, hR, h64, hk, q⟩ := h
  obtain rfl := Vals.ref1 r
  obtain ⟨z, hs, ks, pr, o, es, ep, ho, hx, hdt, he, hn⟩ := (show ObjOk X.prog X.w H s.heap a (.dT kvs) from hR.ok I.hok)
  have l1 : es.size = ks.length := size_of_entries he
  have l2 : kvs.length = ks.length := Paired.length pr
  refine Calls.call_function_entry kind_sorted plain_sorted entry_sorted (args_sorted1 _) ?_
  unfold Builtin.«sorted»
  refine wpAny_bind (m := checkCount "sorted" 1 1 _) (wpAny_pure ?_)
  refine wpAny_bind (PySem.W.kdu_collect (A := X.A.in1) (kdl_raw hs hx hdt) (I.ok.hd calm) ho (by omega) fun h' tk acc kp it => ?_)
  have ea : acc.toList = ks.map fun x => Value.ref x.2.1 := by
    have hl : acc.toList.length = ks.length := by rw [Array.length_toList, it.1]; exact l1
    apply List.ext_getElem?
    intro j
    rw [List.getElem?_map]
    cases hj : acc.toList[j]? with
    | none =>
      have h1 := List.getElem?_eq_none_iff.mp hj
      rw [List.getElem?_eq_none (by omega)]
      all_goals rfl
    | some v =>
      obtain ⟨en, hen, hv⟩ := it.2 j v (by rw [← Array.getElem?_toList]; exact hj)
      have qe := entry_at he j
      rw [hen] at qe
      cases hb : ks[j]? with
      | none =>
        rw [hb] at qe
        exact nomatch (show some en = none from qe)
      | some b =>
        rw [hb] at qe
        have e2 : en = entryOfKey (tupleKind (mixKind X.prog X.w)) b := Option.some.inj qe
        rw [hv, e2]
        all_goals rfl
  have J : Inv X pins σ H { s with heap := h', toks := tk } := I.kept kp
  have al2 : acc.toList.length ≤ sizeLine := by rw [ea, List.length_map]; omega
  have a64 : acc.toList.length < 64 := by rw [ea, List.length_map]; omega
  have tup : ∀ x ∈ ks, ∃ ns : List Int, x.1 = ns.map Sum.inl ∧ ns.length = n ∧ TS.Bd B ns ∧ H x.2.1 = some (.tup (ns.map V.int)) ∧ TS.TupInts h' (.ref x.2.1) ns := fun x m => by
    obtain ⟨kv, mk, e1, e2⟩ := kt_mem pr x m
    obtain ⟨ns, e3, e4, e5⟩ := hk kv mk
    have e6 : x.1 = ns.map Sum.inl := e1.symm.trans e3
    rw [e6, kV_map] at e2
    exact ⟨ns, e6, e4, e5, e2, tupI_raw J (SqT.of e2)⟩
  have mem : ∀ v ∈ acc.toList, ∃ x ∈ ks, v = .ref x.2.1 := fun v hv => by
    rw [ea] at hv
    obtain ⟨x, m, e⟩ := List.mem_map.mp hv
    exact ⟨x, m, e.symm⟩
  have ok : TS.TupsOk h' n B acc.toList := fun v hv => by
    obtain ⟨x, m, rfl⟩ := mem v hv
    obtain ⟨ns, _, e2, e3, _, e5⟩ := tup x m
    exact ⟨ns, e5, e2, e3⟩
  refine wpAny_bind (wpAny_newList ?_ al2)
  have at_ : (h'.push (seqObj "list" acc.toList.toArray 0)).get? h'.objs.size = some (seqObj "list" acc.toList.toArray 0) := Heap.get?_push_size _ rfl
  have keep : ∀ b ob, h'.get? b = some ob → ob.cls = .type "tuple" → (h'.push (seqObj "list" acc.toList.toArray 0)).get? b = some ob := fun b ob e _ => Heap.get?_push_of_some _ e
  show wpAny _ _ _ _ _ { s with heap := h'.push (seqObj "list" acc.toList.toArray 0), toks := tk }
  refine wpAny_bind (wpAny_holding (wpAny_call_entry slot_list_sort ⟨_, at_, rfl⟩ entry_list_sort (TS.sort_tups (s := { s with heap := h'.push (seqObj "list" acc.toList.toArray 0), toks := tk }) at_ a64 h1n (ok.keeps keep) (fun v => TS.code B (TS.intsOf h' v)) (fun v hv ns t => ?_) fun out o1 o2 => ⟨_, rfl, ?_⟩) (args_list_sort _)))
  · obtain ⟨ns0, t0, _⟩ := ok v hv
    have e : ns = ns0 := t.ints.symm.trans (t0.keeps keep).ints
    show TS.code B (TS.intsOf h' v) = TS.code B ns
    rw [e, t0.ints]
  · have each : ∀ v ∈ out.toList, ∃ x ∈ ks, v = .ref x.2.1 ∧ (TS.intsOf h' v).map (Sum.inl : Int → Key) = x.1 ∧ H (adV v) = some (.tup ((TS.intsOf h' v).map V.int)) ∧ (TS.intsOf h' v).length = n ∧ TS.Bd B (TS.intsOf h' v) := fun v hv => by
      obtain ⟨x, m, rfl⟩ := mem v (o1.mem_iff.mp hv)
      obtain ⟨ns, e1, e2, e3, e4, e5⟩ := tup x m
      refine ⟨x, m, rfl, ?_⟩
      rw [e5.ints]
      exact ⟨e1.symm, e4, e2, e3⟩
    have keysA : acc.toList.map (fun v => (TS.intsOf h' v).map (Sum.inl : Int → Key)) = kvs.map (·.1) := by
      rw [kt_keys pr, ea, List.map_map]
      refine List.map_congr_left fun x m => ?_
      obtain ⟨ns, e1, _, _, _, e5⟩ := tup x m
      show (TS.intsOf h' (.ref x.2.1)).map _ = x.1
      rw [e5.ints, e1]
    obtain ⟨e', he'⟩ := PyProof.Rows.sortedHeap_at (vs := acc.toList) (out := out) at_
    have refs : ∀ l : List Value, (∀ v ∈ l, ∃ x ∈ ks, v = .ref x.2.1) → Vals ((l.map fun v => (adV v, TS.intsOf h' v)).map fun y => V.ref y.1) l := by
      intro l
      induction l with
      | nil => intro _; exact .nil
      | cons v l ih =>
        intro hm
        obtain ⟨x, _, rfl⟩ := hm v List.mem_cons_self
        exact .cons rfl (ih fun v m => hm v (List.mem_cons_of_mem _ m))
    have rv := refs out.toList fun v hv => by
      obtain ⟨x, m, e, _⟩ := each v hv
      exact ⟨x, m, e⟩
    have pm : (out.toList.map (fun v => (TS.intsOf h' v).map (Sum.inl : Int → Key))).Perm (kvs.map (·.1)) := by
      rw [← keysA]
      exact o1.map _
    have em : (out.toList.map fun v => (adV v, TS.intsOf h' v)).map (fun y => y.2.map (Sum.inl : Int → Key)) = out.toList.map (fun v => (TS.intsOf h' v).map (Sum.inl : Int → Key)) := by
      rw [List.map_map]; rfl
    have hlen : ((out.toList.map fun v => (adV v, TS.intsOf h' v)).map fun y => V.ref y.1).length ≤ sizeLine := by
      rw [List.length_map, List.length_map, o1.length_eq]
      exact al2
    have e0 : out.toList.toArray = out := Array.toArray_toList ..
    refine wpAny_pure ⟨_, rfl, .ref h'.objs.size, upd H h'.objs.size (.lst ((out.toList.map fun v => (adV v, TS.intsOf h' v)).map fun y => V.ref y.1)), J.laid (t' := tk) (fun c u e => ?_) (Nat.le_refl _) (show ObjOk X.prog X.w _ _ _ (.lst ((out.toList.map fun v => (adV v, TS.intsOf h' v)).map fun y => V.ref y.1)) from ⟨hlen, out.toList, e', rv, by rw [e0]; exact he'⟩), rfl, q (out.toList.map fun v => (adV v, TS.intsOf h' v)) _ ?_ ?_ ?_ (fun y hy => ?_) (J.hok.fresh (Nat.le_refl _))⟩
    · have lt : c < h'.objs.size := Heap.lt_size e
      rw [PyProof.Rows.sortedHeap_old (Nat.ne_of_lt lt) (by rw [size_push']; exact Nat.lt_succ_of_lt lt)]
      exact Heap.get?_push_of_some _ e
    · rw [em]
      exact pm
    · rw [em]
      refine (pm.nodup_iff).mpr ?_
      rw [kt_keys pr]
      exact hn
    · rw [List.pairwise_map]
      exact o2
    · obtain ⟨v, m, rfl⟩ := List.mem_map.mp hy
      obtain ⟨x, _, _, e2, e3, e4, e5⟩ := each v m
      exact ⟨e3, e4, e5⟩
/-- t < u of tuples of ints, in a block -/
theorem op_ltTK {X : Cx} {K : PySem.W.Frag} (h : X.K = K) (hu : X.A.units < cLine) : OpR X (compareOp .Lt) (rLtT K) := h ▸ op_ltT hu
end Lj
set_option Elab.async false
set_option linter.all false
set_option maxRecDepth 100000
namespace Lj
open PySem PySem.Spec PyProof.Rows L2
/-! ### urns that count what is drawn -/
def Ur (c : Nat) (H : Hp) (p : Addr) : Prop := ∃ u v k : Int, H p = some (.lst [.int u, .int v, .int k]) ∧ 0 ≤ u ∧ 0 ≤ v ∧ v < 2305843009213693951 ∧ 0 ≤ k ∧ k ≤ c
theorem Ur.but {c : Nat} {p q : Addr} {H H' : Hp} (b : But q H H') (n : p ≠ q) (h : Ur c H p) : Ur c H' p := by
  obtain ⟨u, v, k, e, r⟩ := h
  exact ⟨u, v, k, b _ _ n e, r⟩
theorem Ur.same {c : Nat} {p : Addr} {H H' : Hp} (b : Same H H') (h : Ur c H p) : Ur c H' p := by
  obtain ⟨u, v, k, e, r⟩ := h
  exact ⟨u, v, k, b _ _ e, r⟩
theorem Ur.ne {c : Nat} {p q : Addr} {H : Hp} (h : Ur c H p) (e : H q = none) : q ≠ p := by
  obtain ⟨u, v, k, e2, _⟩ := h
  exact (ne_of_none e2 e).symm
theorem Ur.up {c d : Nat} {p : Addr} {H : Hp} (h : Ur c H p) (l : c ≤ d) : Ur d H p := by
  obtain ⟨u, v, k, e, a, b, x, y, z⟩ := h
  exact ⟨u, v, k, e, a, b, x, y, by omega⟩
theorem Ur.at {c : Nat} {p : Addr} {H : Hp} (h : Ur c H p) : ∃ o, H p = some o := by
  obtain ⟨_, _, _, e, _⟩ := h
  exact ⟨_, e⟩
theorem Ur.free {c : Nat} {p q : Addr} {H H' : Hp} (h : Ur c H' p) (b : But p H H') (e : H' q = none) : H q = none := by
  cases x : H q with
  | none => rfl
  | some o =>
    have y := b q o (h.ne e) x
    rw [e] at y
    cases y
theorem Ur.kt {c : Nat} {p : Addr} {H H' : Hp} (u : Ur c H p) (b : But p H H') : Kt H H' := by
  obtain ⟨x, y, z, e, _⟩ := u
  exact Kt.but b e
def spPot (K : PySem.W.Frag) : Sp := fun vs H Q _ => ∃ (a : Addr) (ns : List Int) (k : Int), vs = [.ref a, .int k] ∧ SqL K H a (ns.map V.int) ∧ 0 ≤ k ∧ k ≤ 1000 ∧
  ∀ H' p, Same H H' → H p = none → Ur 0 H' p → Q (.ref p) H'
def spTk : Sp := fun vs H Q _ => ∃ (p : Addr) (n : Int) (c : Nat), vs = [.ref p, .int n] ∧ Ur c H p ∧ c ≤ 1000000000 ∧ 0 < n ∧ n.natAbs < 2 ^ 1000 ∧
  ∀ (d : Int) H', 0 ≤ d → d < n → Ur (c + 1) H' p → But p H H' → Q (.int d) H'
def spO (K : PySem.W.Frag) : Sp := fun vs H Q _ => ∃ (p q : Addr) (xs : List V) (c : Nat), vs = [.ref p, .ref q] ∧ Ur c H p ∧ c ≤ 1000000000 ∧ q ≠ p ∧ SqL K H q xs ∧ xs ≠ [] ∧ xs.length ≤ 1000 ∧
  ∀ x H', x ∈ xs → Ur (c + 1) H' p → But p H H' → Q x H'
theorem big_lt {n : Int} (h0 : 0 ≤ n) (h : n ≤ 10 ^ 40) : n.natAbs < 2 ^ 1000 := by
  have z : (10 ^ 40 : Nat) < 2 ^ 1000 := by decide +kernel
  omega
theorem ind_nn {z : Int} (h : 0 ≤ z) (b : Bool) : 0 ≤ z * (if b then 1 else 0) := by
  cases b with
  | true => show 0 ≤ z * 1; omega
  | false => show 0 ≤ z * 0; omega
/-- a block, with a stronger word for what it asks -/
theorem PSs.weak {X : Cx} {st : List Stmt} {t t' : TS} (h : PSs X st t) (i : ∀ D σ H, t' D σ H → t D σ H) : PSs X st t' := ⟨fun pins s σ H D I hw => h.run pins s σ H D I (i D σ H hw)⟩
end Lj
set_option Elab.async false
set_option pp.maxSteps 500
set_option pp.deepTerms.threshold 8
set_option pp.deepTerms false
set_option linter.all false
set_option maxRecDepth 100000
namespace K37
open PySem PySem.Spec PyProof.Rows L2 Lj
def topS (i : Nat) : Stmt := PySem.Challenge.pw_leastjournal_k37_plans_of_any_value.main.body.getD i (.Pass ⟨0, 0, 0, 0⟩)
abbrev sIs_between : Stmt := topS 1
theorem scIs_between : FnScope ["value", "low", "high"] ["value", "low", "high"] (defScope sIs_between) := ⟨rfl, rfl, rfl, by decide +kernel, rfl, by decide +kernel, by decide +kernel⟩
abbrev sIs_plan : Stmt := topS 3
theorem scIs_plan : FnScope ["n", "program", "moment", "value", "at", "part"] ["n", "program", "moment", "value"] (defScope sIs_plan) := ⟨rfl, rfl, rfl, by decide +kernel, rfl, by decide +kernel, by decide +kernel⟩
abbrev sIs_entry : Stmt := topS 4
theorem scIs_entry : FnScope ["n", "moment", "value"] ["n", "moment", "value"] (defScope sIs_entry) := ⟨rfl, rfl, rfl, by decide +kernel, rfl, by decide +kernel, by decide +kernel⟩
abbrev sPot : Stmt := topS 6
theorem scPot : FnScope ["_law_script", "_law_k", "_law_cell", "_law_far", "_law_great", "_law_mixed"] ["_law_script", "_law_k"] (defScope sPot) := ⟨rfl, rfl, rfl, by decide +kernel, rfl, by decide +kernel, by decide +kernel⟩
abbrev sTake : Stmt := topS 7
theorem scTake : FnScope ["_law_pot_here", "_law_many", "_law_digit", "_law_drawn"] ["_law_pot_here", "_law_many"] (defScope sTake) := ⟨rfl, rfl, rfl, by decide +kernel, rfl, by decide +kernel, by decide +kernel⟩
abbrev sOf : Stmt := topS 8
theorem scOf : FnScope ["_law_pot_here", "_law_some"] ["_law_pot_here", "_law_some"] (defScope sOf) := ⟨rfl, rfl, rfl, by decide +kernel, rfl, by decide +kernel, by decide +kernel⟩
abbrev sOdd : Stmt := topS 9
theorem scOdd : FnScope ["_law_pot_here", "_law_value", "_law_way", "_law_some", "_law_at"] ["_law_pot_here", "_law_value"] (defScope sOdd) := ⟨rfl, rfl, rfl, by decide +kernel, rfl, by decide +kernel, by decide +kernel⟩
abbrev sElement : Stmt := topS 10
theorem scElement : FnScope ["_law_p", "_law_value"] ["_law_p", "_law_value"] (defScope sElement) := ⟨rfl, rfl, rfl, by decide +kernel, rfl, by decide +kernel, by decide +kernel⟩
abbrev sDue : Stmt := topS 11
theorem scDue : FnScope ["_law_n", "_law_moment", "_law_value", "_law_entry", "_law_at"] ["_law_n", "_law_moment", "_law_value"] (defScope sDue) := ⟨rfl, rfl, rfl, by decide +kernel, rfl, by decide +kernel, by decide +kernel⟩
abbrev sCase : Stmt := topS 12
theorem scCase : FnScope ["_law_pot_here", "_law_n", "_law_rounds", "_law_program", "_law_moment", "_law_drawn", "_law_turn", "_law_plan", "_law_some", "_law_value", "_law_kept", "_law_due_here"] ["_law_pot_here"] (defScope sCase) := ⟨rfl, rfl, rfl, by decide +kernel, rfl, by decide +kernel, by decide +kernel⟩
abbrev sLaw : Stmt := topS 13
theorem scLaw : FnScope ["_law_script", "_law_k"] ["_law_script"] (defScope sLaw) := ⟨rfl, rfl, rfl, by decide +kernel, rfl, by decide +kernel, by decide +kernel⟩
theorem call_isiK {X : Cx} {K : PySem.W.Frag} (h : X.K = K) : CallR X (.builtin "isinstance") (rIsi K) := h ▸ call_isi
theorem un1 {k : Nat} {A : Around} (hr : Room k A) : A.units + 1 < cLine := by
  have := hr.un
  omega
/-- the name of the kind of data -/
def kdn : PyData → String
  | .none => "NoneType"
  | .bool _ => "bool"
  | .int _ => "int"
  | .str _ => "str"
  | .list _ => "list"
  | .tuple _ => "tuple"
  | .dict _ => "dict"
theorem Dd.kind {K : PySem.W.Frag} {H : Hp} {v : V} {d : PyData} (h : Dd K H v d) : TyX K H v (.type (kdn d)) := by
  cases h with
  | non => exact .base .non
  | bl b => exact .base (.bl b)
  | int i => exact .base (.int i)
  | str x => exact .base (.str x)
  | lst q r =>
    rcases q with (q | ⟨o, q⟩) | ⟨o, its, n, q, c, _⟩
    · exact .base (.lst q)
    · exact .base (.frz q)
    · exact .kList q c
  | tup q r =>
    rcases q with (q | ⟨o, q⟩) | ⟨o, its, n, q, c, _⟩
    · exact .base (.tup q)
    · exact .fTuple q
    · exact .kTuple q c
  | dct q e r => exact .base (.dK q)
theorem far_ok : CMulW (10 ^ 60) (10 ^ 60) ∧ CMulW (10 ^ 60 * 10 ^ 60) (10 ^ 60) ∧ CMulW (10 ^ 60 * 10 ^ 60 * 10 ^ 60) (10 ^ 60) ∧ CMulW (10 ^ 60 * 10 ^ 60 * 10 ^ 60 * 10 ^ 60) (10 ^ 60) := by
  refine ⟨wide_mul (a := 1000) (b := 1000) ?_ ?_ ?_ ?_ ?_, wide_mul (a := 1000) (b := 1000) ?_ ?_ ?_ ?_ ?_, wide_mul (a := 1000) (b := 1000) ?_ ?_ ?_ ?_ ?_, wide_mul (a := 1000) (b := 1000) ?_ ?_ ?_ ?_ ?_⟩ <;> decide +kernel
section
variable {P : Program} {w : World} {K : PySem.W.Frag} {mg : Str → Option Value} {base : Heap}
theorem ok_pot (M : Bl mg) (F : At K mg "_law_pot" sPot ["_law_script", "_law_k"]) {k : Nat} : Has P w K mg base (k + 1) "_law_pot" ["_law_script", "_law_k"] (spPot K) := by
  refine Has.by F scPot (fun vs H Q E h => ?_) (fun f cdv A out s H vs Q E hg hr h => ?_)
  · obtain ⟨a, ns, k, rfl, _⟩ := h
    rfl
  obtain ⟨a, ns, k, rfl, hS, h0, h1, q⟩ := h
  refine ⟨_, (Evl.pss_cut (ps_set (i := 2) scPot.nd rfl (.inl rfl) (pe_ifExp (pt_cmpR op_lt (pv 1) (pe_callB call_len_seq (by rfl) M.len_ (by decide +kernel) (pa_cons (pv 0) pa_nil)) (nomark _)) (pe_ix ix_list (pv 0) (pv 1) (fun _ _ => rfl)) (pe_op op_add (pe_op op_mul pe_int (pv 1)) pe_int)))
  (pss_cons (ps_set (i := 3) scPot.nd rfl (.inl rfl) (pe_op op_mulW (pe_op op_mulW (pe_op op_mulW (pe_op op_mulW (pe_op op_pow pe_int pe_int) (pe_op op_pow pe_int pe_int)) (pe_op op_pow pe_int pe_int)) (pe_op op_pow pe_int pe_int)) (pe_op op_pow pe_int pe_int)))
  (pss_cons (ps_set (i := 4) scPot.nd rfl (.inl rfl) (pe_op op_mul (pe_op op_mod (pe_callB call_abs (by rfl) M.abs_ (by decide +kernel) (pa_cons (pv 2) pa_nil)) (pv 3)) (pe_callTy call_int1 (by rfl) M.int_ (by decide +kernel) (pa_cons (pe_cmpR op_ge (pe_callB call_abs (by rfl) M.abs_ (by decide +kernel) (pa_cons (pv 2) pa_nil)) (pe_op op_pow pe_int pe_int) (nomark _)) pa_nil))))
  (pss_cons (ps_set (i := 5) scPot.nd rfl (.inl rfl) (pe_op op_mul (pe_op op_add (pe_op op_add (pe_op op_mod (pv 2) pe_int) (pe_op op_mul (pe_op op_mul pe_int (pv 1)) (pv 1))) pe_int) pe_int))
  (pss_one (ps_ret (pe_lst (pa_cons (pv 4) (pa_cons (pe_op op_mod (pv 5) pe_int) (pa_cons pe_int pa_nil)))))))))), ?_⟩
  refine ⟨fun σ H' => ∃ c : Int, σ = [some (.ref a), some (.int k), some (.int c), none, none, none] ∧ H' = H, ?_, ?_⟩
  · refine ⟨_, rfl, _, rfl, a, _, rfl, .inl hS, _, _, rfl, rfl, _, rfl, ite2 (fun c => ?_) (fun c => ?_)⟩
    · have c' : k < (((ns.map V.int).length : Nat) : Int) := of_decide_eq_true c
      rw [List.length_map] at c'
      obtain ⟨v, _, hv⟩ := at_int (ns := ns) h0 c'
      exact ⟨_, rfl, _, rfl, a, _, _, _, rfl, rfl, hS, hv, v, rfl, rfl⟩
    · exact ⟨_, rfl, 5, k, rfl, rfl, .inl ⟨by decide, by decide⟩, _, _, rfl, rfl, _, rfl, rfl⟩
  · rintro σ' H' ⟨c, rfl, rfl⟩
    obtain ⟨f1, f2, f3, f4⟩ := far_ok
    refine ⟨10, 60, rfl, rfl, ⟨by decide, by decide, by decide⟩, 10, 60, rfl, rfl, ⟨by decide, by decide, by decide⟩, _, _, rfl, rfl, f1, 10, 60, rfl, rfl, ⟨by decide, by decide, by decide⟩, _, _, rfl, rfl, f2, 10, 60, rfl, rfl, ⟨by decide, by decide, by decide⟩, _, _, rfl, rfl, f3, 10, 60, rfl, rfl, ⟨by decide, by decide, by decide⟩, _, _, rfl, rfl, f4, ?_⟩
    have fp : (0 : Int) < 10 ^ (60 : Int).toNat * 10 ^ (60 : Int).toNat * 10 ^ (60 : Int).toNat * 10 ^ (60 : Int).toNat * 10 ^ (60 : Int).toNat := by decide +kernel
    refine ⟨_, rfl, c, rfl, _, rfl, _, _, rfl, rfl, fp, _, rfl, c, rfl, 10, 18, rfl, rfl, ⟨by decide, by decide, by decide⟩, _, _, rfl, rfl, .inr ⟨_, rfl, _, _, rfl, rfl, .inr (ind_bd _), ?_⟩⟩
    refine ⟨_, rfl, c, _, rfl, rfl, (by show (0 : Int) < 2305843009213693951; decide), _, rfl, 104729, k, rfl, rfl, .inl ⟨by decide, by decide⟩, _, rfl, _, k, rfl, rfl, .inl ⟨by omega, by omega⟩, _, _, rfl, rfl, _, _, rfl, rfl, _, _, rfl, rfl, .inr ⟨by decide, by decide⟩, ?_⟩
    refine ⟨_, rfl, _, rfl, _, _, rfl, rfl, (by show (0 : Int) < 2305843009213693921; decide), (by show 3 ≤ sizeLine; decide), fun p np => ?_⟩
    exact q _ p (same_new np) np ⟨_, _, 0, upd_same, ind_nn (Int.emod_nonneg _ (Int.ne_of_gt fp)) _, Int.emod_nonneg _ (by decide), Int.lt_trans (Int.emod_lt_of_pos _ (by decide)) (by decide), Int.le_refl _, Int.le_refl _⟩
theorem ok_take (F : At K mg "_law_take" sTake ["_law_pot_here", "_law_many"]) {k : Nat} : Has P w K mg base (k + 1) "_law_take" ["_law_pot_here", "_law_many"] spTk := by
  refine Has.by F scTake (fun vs H Q E h => ?_) (fun f cdv A out s H vs Q E hg hr h => ?_)
  · obtain ⟨_, _, _, rfl, _⟩ := h
    rfl
  obtain ⟨p, n, c, rfl, ⟨u, v, k, hp, u0, v0, v1, k0, k1⟩, c1, n0, n1, q⟩ := h
  refine ⟨_, (pss_cons (ps_if (pt_cmpR op_gt (pe_ix ix_list (pv 0) pe_int (fun _ _ => rfl)) pe_int (nomark _))
    (pss_cons (ps_set (i := 2) scTake.nd rfl (.inl rfl) (pe_op op_mod (pe_ix ix_list (pv 0) pe_int (fun _ _ => rfl)) (pv 1)))
  (pss_cons (ps_asg (pe_op op_fdivW (pe_ix ix_list (pv 0) pe_int (fun _ _ => rfl)) (pv 1)) (pg_sub (pv 0) pe_int set_list))
  (pss_one (ps_ret (pv 2)))))
    pss_nil)
  (pss_cons (ps_asg (pe_op op_add (pe_ix ix_list (pv 0) pe_int (fun _ _ => rfl)) pe_int) (pg_sub (pv 0) pe_int set_list))
  (Evl.pss_cut (ps_set (i := 3) scTake.nd rfl (.inl rfl) (pe_op op_mod (pe_op op_mul (pe_op op_add (pe_op op_add (pe_ix ix_list (pv 0) pe_int (fun _ _ => rfl)) (pe_op op_mul (pe_op op_mul pe_int (pe_ix ix_list (pv 0) pe_int (fun _ _ => rfl))) (pe_ix ix_list (pv 0) pe_int (fun _ _ => rfl)))) pe_int) pe_int) pe_int))
  (pss_cons (ps_set (i := 3) scTake.nd rfl (.inl rfl) (pe_op op_mod (pe_op op_mul (pv 3) (pe_op op_add (pe_op op_mod (pv 3) pe_int) (pe_op op_mul pe_int (pe_ix ix_list (pv 0) pe_int (fun _ _ => rfl))))) pe_int))
  (pss_one (ps_ret (pe_op op_mod (pe_op op_add (pe_op op_fdiv (pv 3) pe_int) (pe_op op_fdiv (pv 3) pe_int)) (pv 1)))))))), ?_⟩
  refine ⟨_, rfl, p, _, 0, .int u, rfl, rfl, SqL.of hp, rfl, _, _, rfl, rfl, _, rfl, ite2 (fun c => ?_) (fun c => ?_)⟩
  · have c' : 0 < u := of_decide_eq_true c
    refine ⟨_, rfl, p, _, 0, .int u, rfl, rfl, SqL.of hp, rfl, _, rfl, u, n, rfl, rfl, n0, ?_⟩
    refine ⟨_, rfl, p, _, 0, .int u, rfl, rfl, SqL.of hp, rfl, _, rfl, u, n, rfl, rfl, wide_div (b := 1000) n0 n1 (by decide) (by decide), _, rfl, p, _, 0, 0, rfl, rfl, hp, rfl, _, rfl, ?_⟩
    exact q _ _ (Int.emod_nonneg _ (by omega)) (Int.emod_lt_of_pos _ n0) ⟨_, v, k, upd_same, Int.ediv_nonneg (by omega) (by omega), v0, v1, k0, by omega⟩ But.upd
  · refine ⟨_, rfl, p, _, 2, .int k, rfl, rfl, SqL.of hp, rfl, k, 1, rfl, rfl, _, rfl, p, _, 2, 2, rfl, rfl, hp, rfl, ?_⟩
    have hx : (upd H p (.lst [.int u, .int v, .int (k + 1)])) p = some (.lst [.int u, .int v, .int (k + 1)]) := upd_same
    refine ⟨fun σ H' => ∃ d : Int, σ = [some (.ref p), some (.int n), none, some (.int d)] ∧ H' = upd H p (.lst [.int u, .int v, .int (k + 1)]) ∧ 0 ≤ d ∧ d < 2305843009213693951, ?_, ?_⟩
    · refine ⟨_, rfl, p, _, 1, .int v, rfl, rfl, SqL.of hx, rfl, _, rfl, p, _, 2, .int (k + 1), rfl, rfl, SqL.of hx, rfl, _, _, rfl, rfl, .inl ⟨by decide, by decide⟩, _, rfl, p, _, 2, .int (k + 1), rfl, rfl, SqL.of hx, rfl, _, _, rfl, rfl, .inr ⟨by omega, by omega⟩, _, _, rfl, rfl, _, _, rfl, rfl, _, _, rfl, rfl, .inr ⟨by decide, by decide⟩, _, _, rfl, rfl, (by show (0 : Int) < 2305843009213693951; decide), ?_⟩
      exact ⟨_, rfl, rfl, Int.emod_nonneg _ (by decide), Int.emod_lt_of_pos _ (by decide)⟩
    · rintro σ' H' ⟨d, rfl, rfl, d0, d1⟩
      refine ⟨_, rfl, _, rfl, d, 999983, rfl, rfl, (by show (0 : Int) < 999983; decide), _, rfl, p, _, 2, .int (k + 1), rfl, rfl, SqL.of hx, rfl, _, _, rfl, rfl, .inl ⟨by decide, by decide⟩, _, _, rfl, rfl, d, _, rfl, rfl, .inl ⟨by omega, by omega⟩, _, _, rfl, rfl, (by show (0 : Int) < 2305843009213693907; decide), ?_⟩
      refine ⟨_, rfl, _, 89, rfl, rfl, ⟨by decide, by decide⟩, _, rfl, _, 1000003, rfl, rfl, ⟨by decide, by decide⟩, _, _, rfl, rfl, _, rfl, _, n, rfl, rfl, n0, ?_⟩
      exact q _ _ (Int.emod_nonneg _ (by omega)) (Int.emod_lt_of_pos _ n0) ⟨u, v, k + 1, upd_same, u0, v0, v1, by omega, by omega⟩ But.upd
theorem ok_of (M : Bl mg) (F : At K mg "_law_of" sOf ["_law_pot_here", "_law_some"]) {k : Nat} (h : Has P w K mg base k "_law_take" ["_law_pot_here", "_law_many"] spTk) : Has P w K mg base (k + 1) "_law_of" ["_law_pot_here", "_law_some"] (spO K) := by
  obtain ⟨_, _, cTake⟩ := h
  refine Has.by F scOf (fun vs H Q E h => ?_) (fun f cdv A out s H vs Q E hg hr h => ?_)
  · obtain ⟨_, _, _, _, rfl, _⟩ := h
    rfl
  obtain ⟨p, r, xs, c, rfl, hU, c1, nr, hr2, hx, hl, q⟩ := h
  refine ⟨_, (pss_one (ps_ret (pe_ix ix_list (pv 1) (pe_cal cTake hg hr (by rfl) (pa_cons (pv 0) (pa_cons (pe_callB call_len_seq (by rfl) M.len_ (by decide +kernel) (pa_cons (pv 1) pa_nil)) pa_nil))) (fun _ _ => rfl)))), ?_⟩
  have l0 : 0 < xs.length := List.length_pos_iff.mpr hx
  refine ⟨_, rfl, _, rfl, _, rfl, r, xs, rfl, .inl hr2, p, _, c, rfl, hU, c1, by omega, big_lt (by omega) (by omega), fun d H' d0 d1 hU' hb => ?_⟩
  obtain ⟨x, mx, hx2⟩ := at_any (xs := xs) d0 d1
  exact ⟨r, xs, d, x, rfl, rfl, hb.seq nr hr2, hx2, q x H' mx hU' hb⟩
/-! ### is_between, is_entry -/
def spBtD (K : PySem.W.Frag) : Sp := fun vs H Q _ => ∃ (v : V) (d : PyData) (lo hi : Int), vs = [v, .int lo, .int hi] ∧ Dd K H v d ∧ Q (.bl (isBd lo hi d)) H
theorem ok_btD (M : Bl mg) (F : At K mg "is_between" sIs_between ["value", "low", "high"]) {k : Nat} : Has P w K mg base (k + 1) "is_between" ["value", "low", "high"] (spBtD K) := by
  refine Has.by F scIs_between (fun vs H Q E h => ?_) (fun f cdv A out s H vs Q E hg hr h => ?_)
  · obtain ⟨_, _, _, _, rfl, _⟩ := h
    rfl
  obtain ⟨v, d, lo, hi, rfl, dd, q⟩ := h
  refine ⟨_, (pss_one (ps_ret (pe_and (pe_callB call_isi (by rfl) M.isinstance_ (by decide +kernel) (pa_cons (pv 0) (pa_cons (pe_bltn (v := .ty "int") (by rfl) M.int_ (by decide +kernel) rfl) pa_nil))) (pe_and (pe_not (pe_callB call_isi (by rfl) M.isinstance_ (by decide +kernel) (pa_cons (pv 0) (pa_cons (pe_bltn (v := .ty "bool") (by rfl) M.bool_ (by decide +kernel) rfl) pa_nil)))) (pe_one (pe_chain op_le op_le (pv 1) (pv 0) (pv 2))))))), ?_⟩
  have ty := Dd.kind dd
  cases dd with
  | int v =>
    refine ⟨_, rfl, _, _, _, _, true, rfl, .ty _, (show TyX K H _ (.type "int") from ty), kit_ty (by decide +kernel), _, rfl, iteT ?_⟩
    refine ⟨_, rfl, _, _, _, _, false, rfl, .ty _, (show TyX K H _ (.type "int") from ty), kit_ty (by decide +kernel), _, rfl, _, rfl, iteT ?_⟩
    refine ⟨_, rfl, _, rfl, lo, v, rfl, rfl, _, rfl, ite2 (fun c => ?_) (fun c => ?_)⟩
    · have c' : decide (lo ≤ v) = true := c
      have q' : Q (.bl (decide (lo ≤ v) && decide (v ≤ hi))) H := q
      rw [c', Bool.true_and] at q'
      exact ⟨_, rfl, v, hi, rfl, rfl, q'⟩
    · have c' : decide (lo ≤ v) = false := Bool.eq_false_iff.mpr c
      have q' : Q (.bl (decide (lo ≤ v) && decide (v ≤ hi))) H := q
      rw [c', Bool.false_and] at q'
      exact q'
  | bl b =>
    refine ⟨_, rfl, _, _, _, _, true, rfl, .ty _, (show TyX K H _ (.type "bool") from ty), kit_ty (by decide +kernel), _, rfl, iteT ?_⟩
    exact ⟨_, rfl, _, _, _, _, true, rfl, .ty _, (show TyX K H _ (.type "bool") from ty), kit_ty (by decide +kernel), _, rfl, _, rfl, iteF q⟩
  | non => exact ⟨_, rfl, _, _, _, _, false, rfl, .ty _, (show TyX K H _ (.type "NoneType") from ty), kit_ty (by decide +kernel), _, rfl, iteF q⟩
  | str x => exact ⟨_, rfl, _, _, _, _, false, rfl, .ty _, (show TyX K H _ (.type "str") from ty), kit_ty (by decide +kernel), _, rfl, iteF q⟩
  | lst a r => exact ⟨_, rfl, _, _, _, _, false, rfl, .ty _, (show TyX K H _ (.type "list") from ty), kit_ty (by decide +kernel), _, rfl, iteF q⟩
  | tup a r => exact ⟨_, rfl, _, _, _, _, false, rfl, .ty _, (show TyX K H _ (.type "tuple") from ty), kit_ty (by decide +kernel), _, rfl, iteF q⟩
  | dct a e r => exact ⟨_, rfl, _, _, _, _, false, rfl, .ty _, (show TyX K H _ (.type "dict") from ty), kit_ty (by decide +kernel), _, rfl, iteF q⟩
def spEl (K : PySem.W.Frag) : Sp := fun vs H Q _ => ∃ (v : V) (d : PyData) (p : Int), vs = [.int p, v] ∧ Dd K H v d ∧ Q (.bl (isBd 0 (p - 1) d)) H
theorem lt_dec (v p : Int) : decide (v < p) = decide (v ≤ p - 1) := by
  by_cases h : v < p
  · rw [decide_eq_true h, decide_eq_true (show v ≤ p - 1 by omega)]
  · rw [decide_eq_false h, decide_eq_false (show ¬ v ≤ p - 1 by omega)]
theorem ok_el (M : Bl mg) (F : At K mg "_law_element" sElement ["_law_p", "_law_value"]) {k : Nat} : Has P w K mg base (k + 1) "_law_element" ["_law_p", "_law_value"] (spEl K) := by
  refine Has.by F scElement (fun vs H Q E h => ?_) (fun f cdv A out s H vs Q E hg hr h => ?_)
  · obtain ⟨_, _, _, rfl, _⟩ := h
    rfl
  obtain ⟨v, d, p, rfl, dd, q⟩ := h
  refine ⟨_, (pss_one (ps_ret (pe_and (pe_callB call_isi (by rfl) M.isinstance_ (by decide +kernel) (pa_cons (pv 1) (pa_cons (pe_bltn (v := .ty "int") (by rfl) M.int_ (by decide +kernel) rfl) pa_nil))) (pe_and (pe_not (pe_callB call_isi (by rfl) M.isinstance_ (by decide +kernel) (pa_cons (pv 1) (pa_cons (pe_bltn (v := .ty "bool") (by rfl) M.bool_ (by decide +kernel) rfl) pa_nil)))) (pe_one (pe_chain op_le op_lt pe_int (pv 1) (pv 0))))))), ?_⟩
  have ty := Dd.kind dd
  cases dd with
  | int v =>
    refine ⟨_, rfl, _, _, _, _, true, rfl, .ty _, (show TyX K H _ (.type "int") from ty), kit_ty (by decide +kernel), _, rfl, iteT ?_⟩
    refine ⟨_, rfl, _, _, _, _, false, rfl, .ty _, (show TyX K H _ (.type "int") from ty), kit_ty (by decide +kernel), _, rfl, _, rfl, iteT ?_⟩
    have q' : Q (.bl (decide (0 ≤ v) && decide (v ≤ p - 1))) H := q
    rw [← lt_dec] at q'
    refine ⟨_, rfl, 0, v, rfl, rfl, _, rfl, ite2 (fun c => ?_) (fun c => ?_)⟩
    · have c' : decide (0 ≤ v) = true := c
      rw [c', Bool.true_and] at q'
      exact ⟨_, rfl, v, p, rfl, rfl, q'⟩
    · have c' : decide (0 ≤ v) = false := Bool.eq_false_iff.mpr c
      rw [c', Bool.false_and] at q'
      exact q'
  | bl b =>
    refine ⟨_, rfl, _, _, _, _, true, rfl, .ty _, (show TyX K H _ (.type "bool") from ty), kit_ty (by decide +kernel), _, rfl, iteT ?_⟩
    exact ⟨_, rfl, _, _, _, _, true, rfl, .ty _, (show TyX K H _ (.type "bool") from ty), kit_ty (by decide +kernel), _, rfl, _, rfl, iteF q⟩
  | non => exact ⟨_, rfl, _, _, _, _, false, rfl, .ty _, (show TyX K H _ (.type "NoneType") from ty), kit_ty (by decide +kernel), _, rfl, iteF q⟩
  | str x => exact ⟨_, rfl, _, _, _, _, false, rfl, .ty _, (show TyX K H _ (.type "str") from ty), kit_ty (by decide +kernel), _, rfl, iteF q⟩
  | lst a r => exact ⟨_, rfl, _, _, _, _, false, rfl, .ty _, (show TyX K H _ (.type "list") from ty), kit_ty (by decide +kernel), _, rfl, iteF q⟩
  | tup a r => exact ⟨_, rfl, _, _, _, _, false, rfl, .ty _, (show TyX K H _ (.type "tuple") from ty), kit_ty (by decide +kernel), _, rfl, iteF q⟩
  | dct a e r => exact ⟨_, rfl, _, _, _, _, false, rfl, .ty _, (show TyX K H _ (.type "dict") from ty), kit_ty (by decide +kernel), _, rfl, iteF q⟩
def isEnt (n m : Int) : PyData → Bool
  | .tuple [a, b] => isBd 0 m a && isBd 0 (n - 1) b
  | _ => false
def spEnt (K : PySem.W.Frag) : Sp := fun vs H Q _ => ∃ (v : V) (d : PyData) (n m : Int), vs = [.int n, .int m, v] ∧ Dd K H v d ∧ Q (.bl (isEnt n m d)) H
theorem len_no {xs : List V} {n : Int} (h : decide (V.int ((xs.length : Nat) : Int) = V.int n) = true) : ((xs.length : Nat) : Int) = n := V.int.inj (of_decide_eq_true h)
theorem ok_ent (M : Bl mg) (F : At K mg "is_entry" sIs_entry ["n", "moment", "value"]) {k : Nat} (h : Has P w K mg base k "is_between" ["value", "low", "high"] (spBtD K)) : Has P w K mg base (k + 1) "is_entry" ["n", "moment", "value"] (spEnt K) := by
  obtain ⟨_, _, cIs_between⟩ := h
  refine Has.by F scIs_entry (fun vs H Q E h => ?_) (fun f cdv A out s H vs Q E hg hr h => ?_)
  · obtain ⟨_, _, _, _, rfl, _⟩ := h
    rfl
  obtain ⟨v, d, n, m, rfl, dd, q⟩ := h
  refine ⟨_, (pss_one (ps_ret (pe_and (pe_callB call_isi (by rfl) M.isinstance_ (by decide +kernel) (pa_cons (pv 2) (pa_cons (pe_bltn (v := .ty "tuple") (by rfl) M.tuple_ (by decide +kernel) rfl) pa_nil))) (pe_and (pe_cmpR op_eq (pe_callB call_len_seq (by rfl) M.len_ (by decide +kernel) (pa_cons (pv 2) pa_nil)) pe_int (nomark _)) (pe_and (pe_cal cIs_between hg hr (by rfl) (pa_cons (pe_ix ix_tup (pv 2) pe_int (fun _ _ => rfl)) (pa_cons pe_int (pa_cons (pv 1) pa_nil)))) (pe_one (pe_cal cIs_between hg hr (by rfl) (pa_cons (pe_ix ix_tup (pv 2) pe_int (fun _ _ => rfl)) (pa_cons pe_int (pa_cons (pe_op op_sub (pv 0) pe_int) pa_nil)))))))))), ?_⟩
  have ty := Dd.kind dd
  cases dd with
  | int v => exact ⟨_, rfl, _, _, _, _, false, rfl, .ty _, (show TyX K H _ (.type "int") from ty), kit_ty (by decide +kernel), _, rfl, iteF q⟩
  | bl b => exact ⟨_, rfl, _, _, _, _, false, rfl, .ty _, (show TyX K H _ (.type "bool") from ty), kit_ty (by decide +kernel), _, rfl, iteF q⟩
  | non => exact ⟨_, rfl, _, _, _, _, false, rfl, .ty _, (show TyX K H _ (.type "NoneType") from ty), kit_ty (by decide +kernel), _, rfl, iteF q⟩
  | str x => exact ⟨_, rfl, _, _, _, _, false, rfl, .ty _, (show TyX K H _ (.type "str") from ty), kit_ty (by decide +kernel), _, rfl, iteF q⟩
  | lst a r => exact ⟨_, rfl, _, _, _, _, false, rfl, .ty _, (show TyX K H _ (.type "list") from ty), kit_ty (by decide +kernel), _, rfl, iteF q⟩
  | dct a e r => exact ⟨_, rfl, _, _, _, _, false, rfl, .ty _, (show TyX K H _ (.type "dict") from ty), kit_ty (by decide +kernel), _, rfl, iteF q⟩
  | @tup a xs ds sq r =>
    refine ⟨_, rfl, _, _, _, _, true, rfl, .ty _, (show TyX K H _ (.type "tuple") from ty), kit_ty (by decide +kernel), _, rfl, iteT ?_⟩
    refine ⟨_, rfl, a, xs, rfl, .inr sq, rfl, _, rfl, ?_⟩
    cases r with
    | nil => exact ite2 (fun c => absurd (len_no c) (by decide)) (fun _ => q)
    | cons h0 t0 =>
      cases t0 with
      | nil => exact ite2 (fun c => absurd (len_no c) (show ¬ ((1 : Nat) : Int) = 2 by decide)) (fun _ => q)
      | cons h1 t1 =>
        cases t1 with
        | cons h2 t2 =>
          refine ite2 (fun c => absurd (len_no c) ?_) (fun _ => q)
          simp only [List.length_cons]
          omega
        | nil =>
          refine ite2 (fun _ => ?_) (fun c => absurd (decide_eq_true rfl) c)
          refine ⟨_, rfl, a, _, 0, _, rfl, rfl, sq, rfl, _, rfl, _, _, 0, m, rfl, h0, _, rfl, ite2 (fun c => ?_) (fun c => ?_)⟩
          · refine ⟨_, rfl, a, _, 1, _, rfl, rfl, sq, rfl, _, rfl, n, 1, rfl, rfl, _, _, 0, n - 1, rfl, h1, ?_⟩
            have q' : Q (.bl (isBd 0 m _ && isBd 0 (n - 1) _)) H := q
            rw [c, Bool.true_and] at q'
            exact q'
          · have q' : Q (.bl (isBd 0 m _ && isBd 0 (n - 1) _)) H := q
            rw [Bool.eq_false_iff.mpr c, Bool.false_and] at q'
            exact q'
end
end K37
set_option Elab.async false
set_option pp.maxSteps 500
set_option pp.deepTerms.threshold 8
set_option pp.deepTerms false
set_option linter.all false
set_option maxRecDepth 100000
namespace K37
open PySem PySem.Spec PyProof.Rows L2 Lj
theorem all_map (f : PyData → Bool) (ds : List PyData) : ((ds.map f).all id) = ds.all f := by
  induction ds with
  | nil => rfl
  | cons d ds ih => rw [List.map_cons, List.all_cons, List.all_cons, ih]; rfl
theorem take_snoc {α β : Type} (f : α → β) {ds : List α} {i : Nat} {d : α} (e : ds[i]? = some d) : (ds.take (i + 1)).map f = (ds.take i).map f ++ [f d] := by
  rw [List.take_add_one, e, List.map_append]
  rfl
def ltD : PyData → PyData → Bool
  | .tuple [.int a, .int b], .tuple [.int c, .int d] => HT.lexLt [a, b] [c, d]
  | _, _ => false
def ltAt (ds : List PyData) (i : Nat) : Bool := ltD (ds.getD i .none) (ds.getD (i + 1) .none)
def ascD (ds : List PyData) : Bool := ((List.range (ds.length - 1)).map (ltAt ds)).all id
def isPl (n m : Int) : PyData → Bool
  | .tuple ds => ds.all (isEnt n m) && ascD ds
  | _ => false
theorem ent_shape {n m : Int} {d : PyData} (h : isEnt n m d = true) : ∃ a b : Int, d = .tuple [.int a, .int b] ∧ 0 ≤ a ∧ a ≤ m ∧ 0 ≤ b ∧ b ≤ n - 1 := by
  unfold isEnt at h
  split at h
  · rename_i x y
    rw [Bool.and_eq_true] at h
    obtain ⟨a, rfl, a0, a1⟩ := isBd_int h.1
    obtain ⟨b, rfl, b0, b1⟩ := isBd_int h.2
    exact ⟨a, b, rfl, a0, a1, b0, b1⟩
  · cases h
theorem ent_sq {K : PySem.W.Frag} {H : Hp} {v : V} {a b : Int} (h : Dd K H v (.tuple [.int a, .int b])) : ∃ t, v = .ref t ∧ SqT K H t ([a, b].map V.int) := by
  cases h with
  | @tup t xs _ sq r =>
    cases r with
    | cons h0 t0 =>
      cases h0
      cases t0 with
      | cons h1 t1 =>
        cases h1
        cases t1
        exact ⟨t, rfl, sq⟩
section
variable {P : Program} {w : World} {K : PySem.W.Frag} {mg : Str → Option Value} {base : Heap}
/-! ### ascending, asked part by part -/
theorem asc_at {n m : Int} {H : Hp} {xs : List V} {ds : List PyData} (r : DdAll K H xs ds) (c : ds.all (isEnt n m) = true) {i : Nat} (hi : i < (((xs.length : Nat) : Int) - 1).toNat) :
    ∃ (t u : Addr) (ns ms : List Int), xs[i]? = some (.ref t) ∧ xs[i + 1]? = some (.ref u) ∧ SqT K H t (ns.map V.int) ∧ SqT K H u (ms.map V.int) ∧ HT.lexLt ns ms = ltAt ds i := by
  have l1 : i < xs.length := by omega
  have l2 : i + 1 < xs.length := by omega
  have e1 : xs[i]? = some xs[i] := List.getElem?_eq_getElem l1
  have e2 : xs[i + 1]? = some xs[i + 1] := List.getElem?_eq_getElem l2
  obtain ⟨d1, g1, h1⟩ := r.get e1
  obtain ⟨d2, g2, h2⟩ := r.get e2
  obtain ⟨a, b, rfl, _⟩ := ent_shape (List.all_eq_true.mp c _ (List.mem_of_getElem? g1))
  obtain ⟨a', b', rfl, _⟩ := ent_shape (List.all_eq_true.mp c _ (List.mem_of_getElem? g2))
  obtain ⟨t, et, st⟩ := ent_sq h1
  obtain ⟨u, eu, su⟩ := ent_sq h2
  refine ⟨t, u, _, _, by rw [e1, et], by rw [e2, eu], st, su, ?_⟩
  unfold ltAt
  rw [List.getD_eq_getElem?_getD, List.getD_eq_getElem?_getD, g1, g2]
  rfl
theorem range_snoc (f : Nat → Bool) (i : Nat) : ((List.range (i + 1)).map f).map V.bl = ((List.range i).map f).map V.bl ++ [V.bl (f i)] := by
  rw [List.range_succ, List.map_append, List.map_append]
  rfl
def spPl (K : PySem.W.Frag) : Sp := fun vs H Q _ => ∃ (v pv : V) (d : PyData) (n m : Int), vs = [.int n, pv, .int m, v] ∧ Dd K H v d ∧ lx d ≤ 1000 ∧ ∀ H', Same H H' → Q (.bl (isPl n m d)) H'
def spDue (K : PySem.W.Frag) : Sp := fun vs H Q _ => ∃ (v : V) (d : PyData) (n m : Int), vs = [.int n, .int m, v] ∧ Dd K H v d ∧ lx d ≤ 1000 ∧ ∀ H', Same H H' → Q (.bl (isPl n m d)) H'
theorem ok_plan (M : Bl mg) (F : At K mg "is_plan" sIs_plan ["n", "program", "moment", "value"]) {k : Nat} (h : Has P w K mg base k "is_entry" ["n", "moment", "value"] (spEnt K)) : Has P w K mg base (k + 1) "is_plan" ["n", "program", "moment", "value"] (spPl K) := by
  obtain ⟨_, _, cIs_entry⟩ := h
  refine Has.by F scIs_plan (fun vs H Q E h => ?_) (fun f cdv A out s H vs Q E hg hr h => ?_)
  · obtain ⟨_, _, _, _, _, rfl, _⟩ := h
    rfl
  obtain ⟨v, pgm, d, n, m, rfl, dd, xl, q⟩ := h
  refine ⟨_, (pss_cons (ps_if (PW.pt (pw_or (pt_not (pt_val (pe_callB call_isi (by rfl) M.isinstance_ (by decide +kernel) (pa_cons (pv 3) (pa_cons (pe_bltn (v := .ty "tuple") (by rfl) M.tuple_ (by decide +kernel) rfl) pa_nil))))) (pw_or1 (pt_not (pt_val (pe_callB (cr_all rfl) (by rfl) M.all_ (by decide +kernel) (pa_cons (pe_lc (own := [("part", 5)]) (g := gName 5) (by rfl) scIs_plan.nd (pi_tup (pv 3)) (blkOk_by (own := [("part", 5)]) (N := ["n", "program", "moment", "value", "at", "part"]) (sc := defScope sIs_plan) (by decide +kernel)) (fun _ _ _ _ _ => (pg_name (i := 5) scIs_plan.nd rfl (.inl rfl))) (fun _ _ _ _ _ => pts_nil) (fun _ _ _ _ _ => (pe_cal cIs_entry hg hr (by rfl) (pa_cons (pv 0) (pa_cons (pv 2) (pa_cons (pv 5) pa_nil)))))) pa_nil)))))))
    (pss_one (ps_ret pe_bl))
    pss_nil)
  (pss_one (ps_ret (pe_callB (cr_all rfl) (by rfl) M.all_ (by decide +kernel) (pa_cons (pe_lc (own := [("at", 4)]) (g := gName 4) (by rfl) scIs_plan.nd (pi_range1 (by rfl) M.range_ (pa_cons (pe_op op_sub (pe_callB call_len_seq (by rfl) M.len_ (by decide +kernel) (pa_cons (pv 3) pa_nil)) pe_int) pa_nil)) (blkOk_by (own := [("at", 4)]) (N := ["n", "program", "moment", "value", "at", "part"]) (sc := defScope sIs_plan) (by decide +kernel)) (fun _ _ _ _ _ => (pg_name (i := 4) scIs_plan.nd rfl (.inl rfl))) (fun _ _ _ _ _ => pts_nil) (fun _ _ _ _ _ => (pe_cmpR (op_ltTK (K := K) rfl (Nat.lt_of_succ_lt (un1 hr))) (pe_ix (ix_tupK (K := K) rfl) (pv 3) (pv 4) (fun _ _ => rfl)) (pe_ix (ix_tupK (K := K) rfl) (pv 3) (pe_op op_add (pv 4) pe_int) (fun _ _ => rfl)) (nomark _)))) pa_nil))))), ?_⟩
  have ty := Dd.kind dd
  cases dd with
  | int v => exact ⟨_, rfl, _, _, _, _, false, rfl, .ty _, (show TyX K H _ (.type "int") from ty), kit_ty (by decide +kernel), _, rfl, iteT (q H (Same.refl H))⟩
  | bl b => exact ⟨_, rfl, _, _, _, _, false, rfl, .ty _, (show TyX K H _ (.type "bool") from ty), kit_ty (by decide +kernel), _, rfl, iteT (q H (Same.refl H))⟩
  | non => exact ⟨_, rfl, _, _, _, _, false, rfl, .ty _, (show TyX K H _ (.type "NoneType") from ty), kit_ty (by decide +kernel), _, rfl, iteT (q H (Same.refl H))⟩
  | str x => exact ⟨_, rfl, _, _, _, _, false, rfl, .ty _, (show TyX K H _ (.type "str") from ty), kit_ty (by decide +kernel), _, rfl, iteT (q H (Same.refl H))⟩
  | lst a r => exact ⟨_, rfl, _, _, _, _, false, rfl, .ty _, (show TyX K H _ (.type "list") from ty), kit_ty (by decide +kernel), _, rfl, iteT (q H (Same.refl H))⟩
  | dct a e r => exact ⟨_, rfl, _, _, _, _, false, rfl, .ty _, (show TyX K H _ (.type "dict") from ty), kit_ty (by decide +kernel), _, rfl, iteT (q H (Same.refl H))⟩
  | @tup a xs ds sq r =>
    have yl := r.length
    have y1 : ds.length ≤ 1000 := Nat.le_trans (lx_len ds) xl
    refine ⟨_, rfl, _, _, _, _, true, rfl, .ty _, (show TyX K H _ (.type "tuple") from ty), kit_ty (by decide +kernel), _, rfl, iteF ?_⟩
    refine ⟨_, rfl, a, rfl, ⟨_, sq⟩, fun D nD => ?_⟩
    refine lc_tup (xs := xs) (fun i H' => H' D = some (.lst (((ds.take i).map (isEnt n m)).map V.bl)) ∧ Same H H') ⟨upd_same, same_new nD⟩ (fun i H' _ h => tup_same h.2 sq) ?_ ?_
    · rintro i x H1 hx ⟨e1, e2⟩
      obtain ⟨d, hd, dd⟩ := r.get hx
      refine ⟨rfl, _, rfl, _, rfl, _, rfl, x, d, n, m, rfl, dd.same e2, _, e1, ?_, ?_, fun b o ho => ?_⟩
      · rw [List.length_map, List.length_map, List.length_take, sizeLine_eq]
        omega
      · rw [upd_same, take_snoc _ hd, List.map_append]
        rfl
      · rw [upd_ne (ne_of_none ho nD)]
        exact e2 _ _ ho
    rintro H1 ⟨e1, e2⟩
    rw [yl, List.take_length] at e1
    refine ⟨D, _, rfl, SqL.of e1, _, rfl, ?_⟩
    rw [all_map]
    by_cases c : ds.all (isEnt n m) = true
    · rw [c]
      refine iteF ?_
      have sq1 := tup_same e2 sq
      refine ⟨_, rfl, a, xs, rfl, .inr sq1, _, 1, rfl, rfl, _, rfl, by omega, by omega, fun D2 nD2 => ?_⟩
      have nH : H D2 = none := e2.free nD2
      refine lc_range (lo := 0) (n := (((xs.length : Nat) : Int) - 1).toNat) (fun i H' => H' D2 = some (.lst (((List.range i).map (ltAt ds)).map V.bl)) ∧ Same H H') ⟨upd_same, e2.trans (same_new nD2)⟩ ?_ ?_
      · rintro i H2 hi ⟨f1, f2⟩
        obtain ⟨t, u, ns, ms, g1, g2, g3, g4, g5⟩ := asc_at (r.same f2) c hi
        have sq2 := tup_same f2 sq
        have ei : (0 + (i : Int)) = (i : Int) := by omega
        have ei1 : (0 + (i : Int)) + 1 = ((i + 1 : Nat) : Int) := by omega
        refine ⟨rfl, _, rfl, _, rfl, a, xs, _, _, rfl, rfl, sq2, by rw [ei]; exact atI_nat g1, _, rfl, _, rfl, _, 1, rfl, rfl, a, xs, _, _, rfl, rfl, sq2, by rw [ei1]; exact atI_nat g2, t, u, ns, ms, rfl, rfl, g3, g4, _, f1, ?_, ?_, fun b o ho => ?_⟩
        · rw [List.length_map, List.length_map, List.length_range, sizeLine_eq]
          omega
        · rw [upd_same, range_snoc, g5]
        · rw [upd_ne (ne_of_none ho nH)]
          exact f2 _ _ ho
      rintro H2 ⟨f1, f2⟩
      refine ⟨D2, _, rfl, SqL.of f1, ?_⟩
      have el : (((xs.length : Nat) : Int) - 1).toNat = ds.length - 1 := by omega
      rw [el]
      have this : Q (.bl (ds.all (isEnt n m) && ascD ds)) H2 := q H2 f2
      rw [c, Bool.true_and] at this
      exact this
    · rw [Bool.eq_false_iff.mpr c]
      refine iteT ?_
      have this : Q (.bl (ds.all (isEnt n m) && ascD ds)) H1 := q H1 e2
      rw [Bool.eq_false_iff.mpr c, Bool.false_and] at this
      exact this
theorem ent_take {n m : Int} {ds : List PyData} {i : Nat} {d : PyData} (e : ds[i]? = some d) (h : (ds.take i).all (isEnt n m) = true) : (ds.take (i + 1)).all (isEnt n m) = isEnt n m d := by
  rw [List.take_add_one, e, List.all_append, h, Bool.true_and]
  show (List.all [d] _) = _
  rw [List.all_cons, List.all_nil, Bool.and_true]
theorem ent_false {n m : Int} {ds : List PyData} {d : PyData} (e : d ∈ ds) (h : isEnt n m d = false) : ds.all (isEnt n m) = false := by
  refine Bool.eq_false_iff.mpr fun z => ?_
  rw [List.all_eq_true.mp z d e] at h
  cases h
theorem ok_due (M : Bl mg) (F : At K mg "_law_due" sDue ["_law_n", "_law_moment", "_law_value"]) {k : Nat} (h : Has P w K mg base k "_law_element" ["_law_p", "_law_value"] (spEl K)) : Has P w K mg base (k + 1) "_law_due" ["_law_n", "_law_moment", "_law_value"] (spDue K) := by
  obtain ⟨_, _, cElement⟩ := h
  refine Has.by F scDue (fun vs H Q E h => ?_) (fun f cdv A out s H vs Q E hg hr h => ?_)
  · obtain ⟨_, _, _, _, rfl, _⟩ := h
    rfl
  obtain ⟨v, d, n, m, rfl, dd, xl, q⟩ := h
  refine ⟨_, (pss_cons (ps_if (pt_not (pt_val (pe_callB call_isi (by rfl) M.isinstance_ (by decide +kernel) (pa_cons (pv 2) (pa_cons (pe_bltn (v := .ty "tuple") (by rfl) M.tuple_ (by decide +kernel) rfl) pa_nil)))))
    (pss_one (ps_ret pe_bl))
    pss_nil)
  (pss_cons (ps_for PassesOwn.never rfl (pi_tup (pv 2)) (pg_name (i := 3) scDue.nd rfl (.inl rfl))
    (pss_cons (ps_if (PW.pt (pw_or (pt_not (pt_val (pe_callB call_isi (by rfl) M.isinstance_ (by decide +kernel) (pa_cons (pv 3) (pa_cons (pe_bltn (v := .ty "tuple") (by rfl) M.tuple_ (by decide +kernel) rfl) pa_nil))))) (pw_or1 (pt_cmpR op_ne (pe_callB call_len_seq (by rfl) M.len_ (by decide +kernel) (pa_cons (pv 3) pa_nil)) pe_int (nomark _)))))
    (pss_one (ps_ret pe_bl))
    pss_nil)
  (pss_one (ps_if (PW.pt (pw_or (pt_not (pt_val (pe_cal cElement hg hr (by rfl) (pa_cons (pe_op op_add (pv 1) pe_int) (pa_cons (pe_ix ix_tup (pv 3) pe_int (fun _ _ => rfl)) pa_nil))))) (pw_or1 (pt_not (pt_val (pe_cal cElement hg hr (by rfl) (pa_cons (pv 0) (pa_cons (pe_ix ix_tup (pv 3) pe_int (fun _ _ => rfl)) pa_nil))))))))
    (pss_one (ps_ret pe_bl))
    pss_nil))))
  (pss_one (ps_ret (pe_callB (cr_all rfl) (by rfl) M.all_ (by decide +kernel) (pa_cons (pe_lc (own := [("_law_at", 4)]) (g := gName 4) (by rfl) scDue.nd (pi_range1 (by rfl) M.range_ (pa_cons (pe_op op_sub (pe_callB call_len_seq (by rfl) M.len_ (by decide +kernel) (pa_cons (pv 2) pa_nil)) pe_int) pa_nil)) (blkOk_by (own := [("_law_at", 4)]) (N := ["_law_n", "_law_moment", "_law_value", "_law_entry", "_law_at"]) (sc := defScope sDue) (by decide +kernel)) (fun _ _ _ _ _ => (pg_name (i := 4) scDue.nd rfl (.inl rfl))) (fun _ _ _ _ _ => pts_nil) (fun _ _ _ _ _ => (pe_cmpR (op_ltTK (K := K) rfl (Nat.lt_of_succ_lt (un1 hr))) (pe_ix (ix_tupK (K := K) rfl) (pv 2) (pv 4) (fun _ _ => rfl)) (pe_ix (ix_tupK (K := K) rfl) (pv 2) (pe_op op_add (pv 4) pe_int) (fun _ _ => rfl)) (nomark _)))) pa_nil)))))), ?_⟩
  have ty := Dd.kind dd
  cases dd with
  | int v => exact ⟨_, rfl, _, _, _, _, false, rfl, .ty _, (show TyX K H _ (.type "int") from ty), kit_ty (by decide +kernel), _, rfl, iteT (q H (Same.refl H))⟩
  | bl b => exact ⟨_, rfl, _, _, _, _, false, rfl, .ty _, (show TyX K H _ (.type "bool") from ty), kit_ty (by decide +kernel), _, rfl, iteT (q H (Same.refl H))⟩
  | non => exact ⟨_, rfl, _, _, _, _, false, rfl, .ty _, (show TyX K H _ (.type "NoneType") from ty), kit_ty (by decide +kernel), _, rfl, iteT (q H (Same.refl H))⟩
  | str x => exact ⟨_, rfl, _, _, _, _, false, rfl, .ty _, (show TyX K H _ (.type "str") from ty), kit_ty (by decide +kernel), _, rfl, iteT (q H (Same.refl H))⟩
  | lst a r => exact ⟨_, rfl, _, _, _, _, false, rfl, .ty _, (show TyX K H _ (.type "list") from ty), kit_ty (by decide +kernel), _, rfl, iteT (q H (Same.refl H))⟩
  | dct a e r => exact ⟨_, rfl, _, _, _, _, false, rfl, .ty _, (show TyX K H _ (.type "dict") from ty), kit_ty (by decide +kernel), _, rfl, iteT (q H (Same.refl H))⟩
  | @tup a xs ds sq r =>
    have yl := r.length
    have y1 : ds.length ≤ 1000 := Nat.le_trans (lx_len ds) xl
    have no : ∀ H', Same H H' → ds.all (isEnt n m) = false → Q (.bl false) H' := fun H' s' c => by
      have this : Q (.bl (ds.all (isEnt n m) && ascD ds)) H' := q H' s'
      rw [c, Bool.false_and] at this
      exact this
    refine ⟨_, rfl, _, _, _, _, true, rfl, .ty _, (show TyX K H _ (.type "tuple") from ty), kit_ty (by decide +kernel), _, rfl, iteF ?_⟩
    refine ⟨_, rfl, a, rfl, ⟨_, sq⟩, ?_⟩
    refine for_tup (xs := xs) (fun i σ H' => ∃ y, σ = [some (.int n), some (.int m), some (.ref a), y, none] ∧ H' = H ∧ (ds.take i).all (isEnt n m) = true) ⟨none, rfl, rfl, rfl⟩ (fun i σ H' _ h => by obtain ⟨_, _, rfl, _⟩ := h; exact sq) ?_ ?_
    · rintro i x σ H1 hx ⟨y, rfl, rfl, ht⟩
      obtain ⟨d, hd, dx⟩ := r.get hx
      have md := List.mem_of_getElem? hd
      have ty := Dd.kind dx
      have nx : isEnt n m d = true → ∃ y, [some (V.int n), some (.int m), some (.ref a), some x, none] = [some (.int n), some (.int m), some (.ref a), y, none] ∧ H1 = H1 ∧ (ds.take (i + 1)).all (isEnt n m) = true := fun z => ⟨_, rfl, rfl, by rw [ent_take hd ht, z]⟩
      cases dx with
      | int v => exact ⟨_, rfl, _, _, _, _, false, rfl, .ty _, (show TyX K H1 _ (.type "int") from ty), kit_ty (by decide +kernel), _, rfl, iteT (no H1 (Same.refl _) (ent_false md rfl))⟩
      | bl b => exact ⟨_, rfl, _, _, _, _, false, rfl, .ty _, (show TyX K H1 _ (.type "bool") from ty), kit_ty (by decide +kernel), _, rfl, iteT (no H1 (Same.refl _) (ent_false md rfl))⟩
      | non => exact ⟨_, rfl, _, _, _, _, false, rfl, .ty _, (show TyX K H1 _ (.type "NoneType") from ty), kit_ty (by decide +kernel), _, rfl, iteT (no H1 (Same.refl _) (ent_false md rfl))⟩
      | str x => exact ⟨_, rfl, _, _, _, _, false, rfl, .ty _, (show TyX K H1 _ (.type "str") from ty), kit_ty (by decide +kernel), _, rfl, iteT (no H1 (Same.refl _) (ent_false md rfl))⟩
      | lst b r => exact ⟨_, rfl, _, _, _, _, false, rfl, .ty _, (show TyX K H1 _ (.type "list") from ty), kit_ty (by decide +kernel), _, rfl, iteT (no H1 (Same.refl _) (ent_false md rfl))⟩
      | dct b e r => exact ⟨_, rfl, _, _, _, _, false, rfl, .ty _, (show TyX K H1 _ (.type "dict") from ty), kit_ty (by decide +kernel), _, rfl, iteT (no H1 (Same.refl _) (ent_false md rfl))⟩
      | @tup b ys es sb rb =>
        refine ⟨_, rfl, _, _, _, _, true, rfl, .ty _, (show TyX K H1 _ (.type "tuple") from ty), kit_ty (by decide +kernel), _, rfl, iteF ?_⟩
        refine ⟨_, rfl, b, ys, rfl, .inr sb, rfl, _, rfl, ?_⟩
        cases rb with
        | nil => exact ite2 (fun _ => no H1 (Same.refl _) (ent_false md rfl)) (fun c => absurd (show (!decide (V.int 0 = V.int 2)) = true by decide) c)
        | cons h0 t0 =>
          cases t0 with
          | nil => exact ite2 (fun _ => no H1 (Same.refl _) (ent_false md rfl)) (fun c => absurd (show (!decide (V.int 1 = V.int 2)) = true by decide) c)
          | cons h1 t1 =>
            cases t1 with
            | cons h2 t2 =>
              refine ite2 (fun _ => no H1 (Same.refl _) (ent_false md rfl)) (fun c => ?_)
              have c2 := Bool.eq_false_iff.mpr c
              rw [Bool.not_eq_false'] at c2
              have c3 := len_no c2
              simp only [List.length_cons] at c3
              omega
            | nil =>
              refine ite2 (fun c => ?_) (fun _ => ?_)
              · have c2 : (!decide (V.int 2 = V.int 2)) = true := c
                cases c2
              have em : m + 1 - 1 = m := by omega
              refine ⟨_, rfl, _, _, rfl, rfl, _, rfl, b, _, 0, _, rfl, rfl, sb, rfl, _, _, m + 1, rfl, h0, _, rfl, ?_⟩
              rw [em]
              refine ite2 (fun c => ?_) (fun c => ?_)
              · rw [Bool.not_eq_true'] at c
                exact no H1 (Same.refl _) (ent_false md (by show (isBd 0 m _ && isBd 0 (n - 1) _) = false; rw [c, Bool.false_and]))
              · have c2 := Bool.eq_false_iff.mpr c
                rw [Bool.not_eq_false'] at c2
                refine ⟨_, rfl, _, rfl, b, _, 1, _, rfl, rfl, sb, rfl, _, _, n, rfl, h1, _, rfl, ite2 (fun c => ?_) (fun c => ?_)⟩
                · rw [Bool.not_eq_true'] at c
                  exact no H1 (Same.refl _) (ent_false md (by show (isBd 0 m _ && isBd 0 (n - 1) _) = false; rw [c, Bool.and_false]))
                · have c3 := Bool.eq_false_iff.mpr c
                  rw [Bool.not_eq_false'] at c3
                  exact nx (by show (isBd 0 m _ && isBd 0 (n - 1) _) = true; rw [c2, c3]; rfl)
    · rintro σ H1 ⟨y, rfl, rfl, ht⟩
      rw [yl, List.take_length] at ht
      have c := ht
      have e2 := Same.refl H1
      refine ⟨_, rfl, a, xs, rfl, .inr sq, _, 1, rfl, rfl, _, rfl, by omega, by omega, fun D2 nD2 => ?_⟩
      refine lc_range (lo := 0) (n := (((xs.length : Nat) : Int) - 1).toNat) (fun i H' => H' D2 = some (.lst (((List.range i).map (ltAt ds)).map V.bl)) ∧ Same H1 H') ⟨upd_same, same_new nD2⟩ ?_ ?_
      · rintro i H2 hi ⟨f1, f2⟩
        obtain ⟨t, u, ns, ms, g1, g2, g3, g4, g5⟩ := asc_at (r.same f2) c hi
        have sq2 := tup_same f2 sq
        have ei : (0 + (i : Int)) = (i : Int) := by omega
        have ei1 : (0 + (i : Int)) + 1 = ((i + 1 : Nat) : Int) := by omega
        refine ⟨rfl, _, rfl, _, rfl, a, xs, _, _, rfl, rfl, sq2, by rw [ei]; exact atI_nat g1, _, rfl, _, rfl, _, 1, rfl, rfl, a, xs, _, _, rfl, rfl, sq2, by rw [ei1]; exact atI_nat g2, t, u, ns, ms, rfl, rfl, g3, g4, _, f1, ?_, ?_, fun b o ho => ?_⟩
        · rw [List.length_map, List.length_map, List.length_range, sizeLine_eq]
          omega
        · rw [upd_same, range_snoc, g5]
        · rw [upd_ne (ne_of_none ho nD2)]
          exact f2 _ _ ho
      rintro H2 ⟨f1, f2⟩
      refine ⟨D2, _, rfl, SqL.of f1, ?_⟩
      have el : (((xs.length : Nat) : Int) - 1).toNat = ds.length - 1 := by omega
      rw [el]
      have this : Q (.bl (ds.all (isEnt n m) && ascD ds)) H2 := q H2 f2
      rw [c, Bool.true_and] at this
      exact this
end
end K37
set_option Elab.async false
set_option pp.maxSteps 500
set_option pp.deepTerms.threshold 8
set_option pp.deepTerms false
set_option linter.all false
set_option maxRecDepth 100000
namespace K37
open PySem PySem.Spec PyProof.Rows L2 Lj
theorem no_part {σ : L2.St} {H : Hp} {Q : Option Int → Hp → Prop} (h : Q none H) : tNoPart σ H Q := h
section
variable {P : Program} {w : World} {K : PySem.W.Frag} {mg : Str → Option Value} {base : Heap}
def Odd (d : PyData) : Prop := gd d ∧ bt d ≤ 20000 ∧ d.depth ≤ 2 ∧ lx d ≤ 4
theorem odd_leaf {d : PyData} (h : Leaf d) (n : ∀ ds, d ≠ .list ds ∧ d ≠ .tuple ds) : Odd d := by
  obtain ⟨a, b, c, e⟩ := id h
  cases d with
  | list ds => exact absurd rfl (n ds).1
  | tuple ds => exact absurd rfl (n ds).2
  | dict kv => rw [PyData.depth] at c; omega
  | none => exact ⟨by rw [gd]; trivial, by rw [bt]; decide, by omega, by simp [lx]⟩
  | bool x => exact ⟨by rw [gd]; trivial, by rw [bt]; decide, by omega, by simp [lx]⟩
  | int i => exact ⟨by rw [gd]; exact h, by rw [bt]; decide, by omega, by simp [lx]⟩
  | str x => exact ⟨by rw [gd]; exact h, by rw [bt]; decide, by omega, by simp [lx]⟩
theorem leaf_i {i : Int} (h : i.natAbs < 2 ^ 1000) : Leaf (.int i) := leaf_int (log_of h (by decide) (by decide))
theorem odd_i {i : Int} (h : i.natAbs < 2 ^ 1000) : Odd (.int i) := odd_leaf (leaf_i h) fun ds => ⟨fun e => PyData.noConfusion e, fun e => PyData.noConfusion e⟩
def oWords : List Str := ["", "sum", "apart"]
theorem leaf_w {x : Str} (h : x ∈ oWords) : Leaf (.str x) := by
  have z : (oWords.all fun x => (PyData.str x).showable && decide ((PyData.str x).shown.length ≤ 1921)) = true := by decide +kernel
  have y := List.all_eq_true.mp z x h
  rw [Bool.and_eq_true] at y
  exact ⟨y.1, by rw [PyData.hasDict], by rw [PyData.depth], of_decide_eq_true y.2⟩
theorem odd_s {x : Str} (h : x ∈ oWords) : Odd (.str x) := odd_leaf (leaf_w h) fun ds => ⟨fun e => PyData.noConfusion e, fun e => PyData.noConfusion e⟩
theorem odd_e : Odd (.tuple []) ∧ Odd (.list []) ∧ Odd (.dict []) := by
  refine ⟨⟨?_, ?_, ?_, ?_⟩, ⟨?_, ?_, ?_, ?_⟩, ⟨?_, ?_, ?_, ?_⟩⟩ <;> simp [gd, gds, bt, bts, PyData.depth, PyData.depthAll, PyData.depthKv, lx, lxs]
theorem cut_fromA (xs : List V) (i : Nat) : cutV xs (some (i : Int)) none = xs.drop i := by
  unfold cutV
  rw [HT.sIx_none, HT.sIx_nat]
  by_cases h : i ≤ xs.length
  · rw [Nat.min_eq_left h]
    exact List.take_of_length_le (by rw [List.length_drop]; exact Nat.le_refl _)
  · rw [Nat.min_eq_right (by omega), List.drop_length, List.drop_eq_nil_of_le (by omega)]
    exact List.take_nil
theorem way0 {ds : List PyData} (g : gd (.tuple ds)) (i : Nat) : Fit (.tuple ds) (.tuple (ds.take i ++ ds.drop (i + 1))) := by
  refine (fits (fun e m => fit_of g ?_) ?_ ?_).1
  · rcases List.mem_append.mp m with m | m
    · exact List.mem_of_mem_take m
    · exact List.mem_of_mem_drop m
  · have a := bts_cut ds i
    have b := bts_cut ds (i + 1)
    rw [bts_append]
    omega
  · rw [List.length_append, List.length_take, List.length_drop]
    omega
theorem way1 {ds : List PyData} (g : gd (.tuple ds)) (i : Nat) : Fit (.tuple ds) (.tuple (ds.take (i + 1) ++ ds.drop i)) := by
  refine (fits (fun e m => fit_of g ?_) ?_ ?_).1
  · rcases List.mem_append.mp m with m | m
    · exact List.mem_of_mem_take m
    · exact List.mem_of_mem_drop m
  · have a := bts_cut ds i
    have b := bts_cut ds (i + 1)
    rw [bts_append]
    omega
  · rw [List.length_append, List.length_take, List.length_drop]
    omega
theorem way3 {ds : List PyData} (g : gd (.tuple ds)) : Fit (.tuple ds) (.list ds) := (fits (fun e m => fit_of g m) (by omega) (by omega)).2
theorem way4 {ds : List PyData} (g : gd (.tuple ds)) {i : Nat} {e e' : PyData} (he : ds[i]? = some e) (h : Fit e e') : Fit (.tuple ds) (.tuple (ds.take i ++ [e'] ++ ds.drop (i + 1))) := by
  have me := List.mem_of_getElem? he
  refine (fits (fun x m => ?_) ?_ ?_).1
  · rcases List.mem_append.mp m with m | m
    · rcases List.mem_append.mp m with m | m
      · exact fit_of g (List.mem_of_mem_take m)
      · cases List.mem_singleton.mp m
        obtain ⟨a, b, c, d⟩ := h
        have := dep_mem me
        have := lx_tup me
        exact ⟨a, by omega, by omega⟩
    · exact fit_of g (List.mem_of_mem_drop m)
  · have a := bts_at he
    have := h.2.1
    rw [bts_append, bts_append, bts, bts]
    omega
  · rw [List.length_append, List.length_append, List.length_take, List.length_drop, List.length_singleton]
    have := (List.getElem?_eq_some_iff.mp he).1
    omega
theorem fit_odd {d e : PyData} (h : Odd e) : Fit d e := ⟨h.1, by have := h.2.1; omega, by have := h.2.2.1; omega, by have := h.2.2.2; omega⟩
theorem cut_from1 (xs : List V) (i : Nat) : cutV xs (some ((i : Int) + 1)) none = xs.drop (i + 1) := cut_fromA xs (i + 1)
theorem cut_to1 (xs : List V) (i : Nat) : cutV xs none (some ((i : Int) + 1)) = xs.take (i + 1) := cut_to xs (i + 1)
theorem ban_cut {B : List Addr} {H : Hp} {a : Addr} {xs ys : List V} {lo hi : Option Int} {Q : V → Hp → Prop} (sq : SqT K (ban B H) a xs) (hB : Held B H) (e : cutV xs lo hi = ys) (q : ∀ a' H', Same H H' → SqT K (ban B H') a' ys → Q (.ref a') H') : rSlA K (.ref a) lo hi H Q := by
  refine ⟨a, _, rfl, tup_same ban_on sq, fun h => ?_, fun _ p np => ?_⟩
  · have cw := cut_whole _ _ _ h
    rw [e] at cw
    exact q _ H (Same.refl H) (by rw [cw]; exact sq)
  · rw [e]
    exact q _ _ (same_new np) (SqT.of (ban_new hB np))
theorem ban_cat {B : List Addr} {H : Hp} {a b : Addr} {xs ys : List V} {Q : V → Hp → Prop} (sa : SqT K (ban B H) a xs) (sb : SqT K (ban B H) b ys) (hB : Held B H) (l : xs.length + ys.length ≤ sizeLine) (q : ∀ a' H', Same H H' → SqT K (ban B H') a' (xs ++ ys) → Q (.ref a') H') : rCatA K (.ref a) (.ref b) H Q := by
  refine ⟨a, b, xs, ys, rfl, rfl, tup_same ban_on sa, tup_same ban_on sb, l, fun e => ?_, fun _ e => ?_, fun _ _ p np => ?_⟩
  · subst e
    exact q b H (Same.refl H) sb
  · subst e
    exact q a H (Same.refl H) (by rw [List.append_nil]; exact sa)
  · exact q _ _ (same_new np) (SqT.of (ban_new hB np))

theorem odd_z : Odd (.tuple [.int 0]) := by
  have b : Leaf (.int 0) := leaf_i (by decide)
  refine ⟨?_, ?_, ?_, ?_⟩ <;> simp [gd, gds, bt, bts, PyData.depth, PyData.depthAll, lx, lxs, b]
theorem fit_w {d : PyData} (g : gd d) : Fit d (.list [d]) ∧ Fit d (.tuple [d]) := by
  refine ⟨⟨?_, ?_, ?_, ?_⟩, ⟨?_, ?_, ?_, ?_⟩⟩ <;> simp [gd, gds, bt, bts, PyData.depth, PyData.depthAll, lx, lxs, g] <;> omega
theorem way5 {ds : List PyData} (g : gd (.tuple ds)) {e : PyData} (h : e ∈ ds ∨ Odd e) : Fit (.tuple ds) (.tuple (ds ++ [e])) := by
  refine (fits (fun x m => ?_) ?_ ?_).1
  · rcases List.mem_append.mp m with m | m
    · exact fit_of g m
    · cases List.mem_singleton.mp m
      rcases h with h | h
      · exact fit_of g h
      · exact ⟨h.1, by have := h.2.2.1; omega, by have := h.2.2.2; omega⟩
  · rw [bts_append, bts, bts]
    rcases h with h | h
    · have := bts_mem h
      omega
    · have := h.2.1
      omega
  · rw [List.length_append, List.length_singleton]
    omega
def odds (d : PyData) : List PyData := [.none, .bool true, .bool false, .str "", .str "sum", .str "apart", .tuple [], .list [], .dict [], .int (-1), .int 0, .int 1, .int 2, .int (10 ^ 30), .tuple [.int 0], .list [d], .tuple [d]]
theorem odds_fit {d : PyData} (g : gd d) : ∀ e ∈ odds d, Fit d e := by
  intro e m
  simp only [odds, List.mem_cons, List.not_mem_nil, or_false] at m
  rcases m with rfl | rfl | rfl | rfl | rfl | rfl | rfl | rfl | rfl | rfl | rfl | rfl | rfl | rfl | rfl | rfl | rfl
  · exact fit_odd (odd_leaf leaf_none fun ds => ⟨fun e => PyData.noConfusion e, fun e => PyData.noConfusion e⟩)
  · exact fit_odd (odd_leaf (leaf_bool _) fun ds => ⟨fun e => PyData.noConfusion e, fun e => PyData.noConfusion e⟩)
  · exact fit_odd (odd_leaf (leaf_bool _) fun ds => ⟨fun e => PyData.noConfusion e, fun e => PyData.noConfusion e⟩)
  · exact fit_odd (odd_s (by decide))
  · exact fit_odd (odd_s (by decide))
  · exact fit_odd (odd_s (by decide))
  · exact fit_odd odd_e.1
  · exact fit_odd odd_e.2.1
  · exact fit_odd odd_e.2.2
  · exact fit_odd (odd_i (by decide))
  · exact fit_odd (odd_i (by decide))
  · exact fit_odd (odd_i (by decide))
  · exact fit_odd (odd_i (by decide))
  · exact fit_odd (odd_i (by decide))
  · exact fit_odd odd_z
  · exact (fit_w g).1
  · exact (fit_w g).2
def tSome (K : PySem.W.Frag) (u : Addr) : TS := fun D σ H => ∃ (v z : V) (d : PyData) (B : List Addr) (c : Nat), σ = [some (.ref u), some v, some z, none, none] ∧ Ur c H u ∧ c ≤ 1000000000 ∧ u ∈ B ∧ Held B H ∧ Dd K (ban B H) v d ∧ gd d ∧
  ∀ v' d' H', Ur (c + 1) H' u → But u H H' → Dd K (ban B H') v' d' → Fit d d' → D.rt v' H'
def spOdd (K : PySem.W.Frag) (lv : Nat) : Sp := fun vs H Q _ => ∃ (u : Addr) (v : V) (d : PyData) (B : List Addr) (c : Nat), vs = [.ref u, v] ∧ Ur c H u ∧ c + 4 * (lv + 1) ≤ 1000000000 ∧ u ∈ B ∧ Held B H ∧ Dd K (ban B H) v d ∧ gd d ∧ d.depth ≤ lv ∧ lx d ≤ 900 ∧
  ∀ v' d' H', Ur (c + 4 * (lv + 1)) H' u → But u H H' → Dd K (ban B H') v' d' → Fit d d' → Q v' H'
def spOddm (K : PySem.W.Frag) : Nat → Sp
  | 0 => fun _ _ _ _ => False
  | lv + 1 => spOdd K lv
set_option maxHeartbeats 4000000 in
theorem ok_odd1 (M : Bl mg) (F : At K mg "_law_odd" sOdd ["_law_pot_here", "_law_value"]) {k lv : Nat} (h1 : Has P w K mg base k "_law_take" ["_law_pot_here", "_law_many"] spTk) (h2 : Has P w K mg base k "_law_of" ["_law_pot_here", "_law_some"] (spO K)) (h3 : Has P w K mg base k "_law_odd" ["_law_pot_here", "_law_value"] (spOddm K lv)) :
    Has P w K mg base (k + 1) "_law_odd" ["_law_pot_here", "_law_value"] (spOdd K lv) := by
  obtain ⟨_, _, cTake⟩ := h1
  obtain ⟨_, _, cOf⟩ := h2
  obtain ⟨_, _, cOdd⟩ := h3
  refine Has.by F scOdd (fun vs H Q E h => ?_) (fun f cdv A out s H vs Q E hg hr h => ?_)
  · obtain ⟨_, _, _, _, _, rfl, _⟩ := h
    rfl
  obtain ⟨u, v, d, B, c, rfl, hU, c1, uB, hB, dd, g, dl, xl, qq⟩ := h
  refine ⟨_, (pss_cons (ps_set (i := 2) scOdd.nd rfl (.inl rfl) (pe_cal cTake hg hr (by rfl) (pa_cons (pv 0) (pa_cons pe_int pa_nil))))
  (pss_cons (ps_if (PW.pt (pw_or (pt_not (pt_val (pe_callB call_isi (by rfl) M.isinstance_ (by decide +kernel) (pa_cons (pv 1) (pa_cons (pe_bltn (v := .ty "tuple") (by rfl) M.tuple_ (by decide +kernel) rfl) pa_nil))))) (pw_or (pt_cmpR (op_eq0 hr.units) (pv 1) (pe_tup pa_nil) (nomark _)) (pw_or1 (pt_cmpR op_eq (pv 2) pe_int (nomark _))))))
    (PSs.weak (t' := tSome K u) (pss_cons (ps_set (i := 3) scOdd.nd rfl (.inl rfl) (pe_lst (pa_cons pe_non (pa_cons pe_bl (pa_cons pe_bl (pa_cons pe_str (pa_cons pe_str (pa_cons pe_str (pa_cons (pe_tup pa_nil) (pa_cons (pe_lst pa_nil) (pa_cons pe_dnewK (pa_cons (pe_un un_neg pe_int) (pa_cons pe_int (pa_cons pe_int (pa_cons pe_int (pa_cons (pe_op op_pow pe_int pe_int) (pa_cons (pe_tup (pa_cons pe_int pa_nil)) (pa_cons (pe_lst (pa_cons (pv 1) pa_nil)) (pa_cons (pe_tup (pa_cons (pv 1) pa_nil)) pa_nil)))))))))))))))))))
  (pss_one (ps_ret (pe_cal cOf hg hr (by rfl) (pa_cons (pv 0) (pa_cons (pv 3) pa_nil)))))) ?imp)
    pss_nil)
  (pss_cons (ps_set (i := 4) scOdd.nd rfl (.inl rfl) (pe_cal cTake hg hr (by rfl) (pa_cons (pv 0) (pa_cons (pe_callB call_len_seq (by rfl) M.len_ (by decide +kernel) (pa_cons (pv 1) pa_nil)) pa_nil))))
  (pss_cons (ps_if (pt_cmpR op_eq (pv 2) pe_int (nomark _))
    (pss_one (ps_ret (pe_op op_catA (pe_slice sl_tupA (pv 1) po_none (po_some (pv 4))) (pe_slice sl_tupA (pv 1) (po_some (pe_op op_add (pv 4) pe_int)) po_none))))
    pss_nil)
  (pss_cons (ps_if (pt_cmpR op_eq (pv 2) pe_int (nomark _))
    (pss_one (ps_ret (pe_op op_catA (pe_slice sl_tupA (pv 1) po_none (po_some (pe_op op_add (pv 4) pe_int))) (pe_slice sl_tupA (pv 1) (po_some (pv 4)) po_none))))
    pss_nil)
  (pss_cons (ps_if (pt_cmpR op_eq (pv 2) pe_int (nomark _))
    (pss_one (ps_ret (pe_callTy call_list_of (by rfl) M.list_ (by decide +kernel) (pa_cons (pv 1) pa_nil))))
    pss_nil)
  (pss_cons (ps_if (pt_cmpR op_eq (pv 2) pe_int (nomark _))
    (pss_one (ps_ret (pe_op op_catA (pv 1) (pe_tup (pa_cons (pe_cal cOf hg hr (by rfl) (pa_cons (pv 0) (pa_cons (pe_lst (pa_cons pe_int (pa_cons pe_non (pa_cons (pe_tup pa_nil) (pa_cons (pe_ix ix_tup (pv 1) (pv 4) (fun _ _ => rfl)) pa_nil))))) pa_nil))) pa_nil)))))
    pss_nil)
  (pss_one (ps_ret (pe_op op_catA (pe_op op_catA (pe_slice sl_tupA (pv 1) po_none (po_some (pv 4))) (pe_tup (pa_cons (pe_cal cOdd hg hr (by rfl) (pa_cons (pv 0) (pa_cons (pe_ix ix_tup (pv 1) (pv 4) (fun _ _ => rfl)) pa_nil))) pa_nil))) (pe_slice sl_tupA (pv 1) (po_some (pe_op op_add (pv 4) pe_int)) po_none))))))))))), ?_⟩
  case imp =>
    rintro D σ H0 ⟨v, z, d, B, c, rfl, hU, c1, uB, hB, dd, g, q⟩
    refine ⟨Nat.zero_le _, fun t1 nt1 => ?_⟩
    have s1 := same_new (o := .tup []) nt1
    have c1' := ban_new (o := .tup []) hB nt1
    have hB1 := hB.same s1
    refine ⟨Nat.zero_le _, fun l1 nl1 => ?_⟩
    have s2 := same_new (o := .lst []) nl1
    have c2 := ban_new (o := .lst []) hB1 nl1
    have hB2 := hB1.same s2
    refine fun d1 nd1 => ?_
    have s3 := same_new (o := .dK []) nd1
    have c3 := ban_new (o := .dK []) hB2 nd1
    have hB3 := hB2.same s3
    refine ⟨1, rfl, 10, 30, rfl, rfl, ⟨by decide, by decide, by decide⟩, (by show 1 ≤ sizeLine; decide), fun t2 nt2 => ?_⟩
    have s4 := same_new (o := .tup [.int 0]) nt2
    have c4 := ban_new (o := .tup [.int 0]) hB3 nt2
    have hB4 := hB3.same s4
    refine ⟨_, rfl, (by show 1 ≤ sizeLine; decide), fun l2 nl2 => ?_⟩
    have s5 := same_new (o := .lst [v]) nl2
    have c5 := ban_new (o := .lst [v]) hB4 nl2
    have hB5 := hB4.same s5
    refine ⟨_, rfl, (by show 1 ≤ sizeLine; decide), fun t3 nt3 => ?_⟩
    have s6 := same_new (o := .tup [v]) nt3
    have c6 := ban_new (o := .tup [v]) hB5 nt3
    have hB6 := hB5.same s6
    refine ⟨(by show 17 ≤ sizeLine; decide), fun L nL => ?_⟩
    have s7 := same_new (o := .lst [V.non, .bl true, .bl false, .str "", .str "sum", .str "apart", .ref t1, .ref l1, .ref d1, .int (-1), .int 0, .int 1, .int 2, .int (10 ^ 30), .ref t2, .ref l2, .ref t3]) nL
    have s67 := s6.trans s7
    have s57 := s5.trans s67
    have s47 := s4.trans s57
    have s37 := s3.trans s47
    have s27 := s2.trans s37
    have s17 := s1.trans s27
    have vd := dd.same (ban_same s17)
    have mk : ∀ {Ha Hz : Hp}, Same Ha Hz → DdAll K (ban B Hz) [V.non, .bl true, .bl false, .str "", .str "sum", .str "apart", .ref t1, .ref l1, .ref d1, .int (-1), .int 0, .int 1, .int 2, .int (10 ^ 30), .ref t2, .ref l2, .ref t3] (odds d) → DdAll K (ban B Hz) [V.non, .bl true, .bl false, .str "", .str "sum", .str "apart", .ref t1, .ref l1, .ref d1, .int (-1), .int 0, .int 1, .int 2, .int (10 ^ 30), .ref t2, .ref l2, .ref t3] (odds d) := fun _ h => h
    have da := mk s17 (by
      refine .cons .non (.cons (.bl _) (.cons (.bl _) (.cons (.str _) (.cons (.str _) (.cons (.str _) (.cons ?_ (.cons ?_ (.cons ?_ (.cons (.int _) (.cons (.int _) (.cons (.int _) (.cons (.int _) (.cons (.int _) (.cons ?_ (.cons ?_ (.cons ?_ .nil))))))))))))))))
      · exact .tup (SqT.of (ban_same s27 _ _ c1')) .nil
      · exact .lst (SqL.of (ban_same s37 _ _ c2)) .nil
      · exact .dct (kvs := []) (ban_same s47 _ _ c3) rfl .nil
      · exact .tup (SqT.of (ban_same s57 _ _ c4)) (.cons (.int _) .nil)
      · exact .lst (SqL.of (ban_same s67 _ _ c5)) (.cons vd .nil)
      · exact .tup (SqT.of (ban_same s7 _ _ c6)) (.cons vd .nil))
    refine ⟨_, rfl, _, rfl, u, L, _, c, rfl, hU.same s17, c1, (hU.same (s1.trans (s2.trans (s3.trans (s4.trans (s5.trans s6)))))).ne nL, SqL.of upd_same, (fun e => by cases e), (by show 17 ≤ 1000; decide), fun x H' hx hU' hb => ?_⟩
    obtain ⟨e, me, he⟩ := (da.same (ban_but uB hb)).mem hx
    exact q x e H' hU' ((But.same s17).trans hb) he (odds_fit g e me)
  refine ⟨_, rfl, u, 8, c, rfl, hU, by omega, by decide, big_lt (by decide) (by decide), fun wy H1 w0 w1 u1 b1 => ?_⟩
  have hB1 := hB.but b1 u1.at
  have dd1 := dd.same (ban_but uB b1)
  have ty := Dd.kind (dd1.same ban_on)
  have go : ∀ {H2 : Hp}, Ur (c + 1) H2 u → But u H H2 → Held B H2 → ∀ v' d' H', Ur (c + 1 + 1) H' u → But u H2 H' → Dd K (ban B H') v' d' → Fit d d' → Q v' H' := fun a b e v' d' H' u' b' dd' ft => qq v' d' H' (u'.up (by omega)) (b.trans b') dd' ft
  have to : ∀ {H2 : Hp}, Ur (c + 1) H2 u → But u H H2 → tSome K u { nx := fun x H' => Q V.non H', rt := Q } [some (.ref u), some v, some (.int wy), none, none] H2 := fun a b => by
    have hB2 := hB.but b a.at
    exact ⟨v, .int wy, d, B, c + 1, rfl, a, by omega, uB, hB2, dd.same (ban_but uB b), g, go a b hB2⟩
  cases dd1 with
  | int i => exact ⟨_, rfl, _, _, _, _, false, rfl, .ty _, (show TyX K H1 _ (.type "int") from ty), kit_ty (by decide +kernel), _, rfl, iteT (to u1 b1)⟩
  | bl i => exact ⟨_, rfl, _, _, _, _, false, rfl, .ty _, (show TyX K H1 _ (.type "bool") from ty), kit_ty (by decide +kernel), _, rfl, iteT (to u1 b1)⟩
  | non => exact ⟨_, rfl, _, _, _, _, false, rfl, .ty _, (show TyX K H1 _ (.type "NoneType") from ty), kit_ty (by decide +kernel), _, rfl, iteT (to u1 b1)⟩
  | str i => exact ⟨_, rfl, _, _, _, _, false, rfl, .ty _, (show TyX K H1 _ (.type "str") from ty), kit_ty (by decide +kernel), _, rfl, iteT (to u1 b1)⟩
  | lst a r => exact ⟨_, rfl, _, _, _, _, false, rfl, .ty _, (show TyX K H1 _ (.type "list") from ty), kit_ty (by decide +kernel), _, rfl, iteT (to u1 b1)⟩
  | dct a e r => exact ⟨_, rfl, _, _, _, _, false, rfl, .ty _, (show TyX K H1 _ (.type "dict") from ty), kit_ty (by decide +kernel), _, rfl, iteT (to u1 b1)⟩
  | @tup cc ys ds sq r =>
    refine ⟨_, rfl, _, _, _, _, true, rfl, .ty _, (show TyX K H1 _ (.type "tuple") from ty), kit_ty (by decide +kernel), _, rfl, iteF ?_⟩
    refine ⟨_, rfl, Nat.zero_le _, fun e0 ne0 => ?_⟩
    have s2 := same_new (o := .tup []) ne0
    have u2 := u1.same s2
    have b2 : But u H _ := b1.trans (But.same s2)
    have hB2 := hB1.same s2
    have yl := r.length
    refine ⟨cc, e0, ys, rfl, rfl, tup_same (ban_on.trans s2) sq, SqT.of upd_same, _, rfl, ?_⟩
    cases ey : ys with
    | nil => exact iteT (to u2 b2)
    | cons y0 ys0 =>
      refine iteF ?_
      have y0 : 0 < ys.length := by rw [ey]; exact Nat.succ_pos _
      have y1 : ys.length ≤ 900 := by rw [yl]; exact Nat.le_trans (lx_len ds) xl
      refine ⟨_, rfl, rfl, _, rfl, ite2 (fun _ => to u2 b2) (fun _ => ?_)⟩
      have sq2 := tup_same (ban_same s2) sq
      refine ⟨_, rfl, _, rfl, cc, ys, rfl, .inr (tup_same ban_on sq2), u, _, c + 1, rfl, u2, by omega, by omega, big_lt (by omega) (by omega), fun at_ H4 a0 a1 u4 b4 => ?_⟩
      have bb4 : But u H H4 := b2.trans b4
      have hB4 := hB.but bb4 u4.at
      have sq4 := tup_same (ban_but uB b4) sq2
      have r4 := (r.same (ban_same s2)).same (ban_but uB b4)
      obtain ⟨i, rfl⟩ : ∃ i : Nat, at_ = (i : Int) := ⟨at_.toNat, by omega⟩
      have hi : i < ys.length := by omega
      have lenA : ∀ (a b : List V), a.length ≤ 2000 → b.length ≤ 1000 → a.length + b.length ≤ sizeLine := fun a b x y => by rw [sizeLine_eq]; omega
      have tk : ∀ j, (ys.take j).length ≤ 1000 := fun j => by rw [List.length_take]; omega
      have dr : ∀ j, (ys.drop j).length ≤ 1000 := fun j => by rw [List.length_drop]; omega
      have up2 : ∀ {H' : Hp}, Ur (c + 1 + 1) H' u → Ur (c + 4 * (lv + 1)) H' u := fun h => h.up (by omega)
      -- left out
      refine ⟨_, rfl, rfl, _, rfl, ite2 (fun _ => ?_) (fun _ => ?_)⟩
      · refine ⟨_, rfl, _, rfl, (i : Int), rfl, ?_⟩
        refine ban_cut sq4 hB4 (cut_to ys i) fun p5 H5 s5 q5 => ?_
        refine ⟨_, rfl, _, rfl, _, _, rfl, rfl, (i : Int) + 1, rfl, no_part ?_⟩
        refine ban_cut (tup_same (ban_same s5) sq4) (hB4.same s5) (cut_from1 ys i) fun p6 H6 s6 q6 => ?_
        refine ban_cat (tup_same (ban_same s6) q5) q6 (hB4.same (s5.trans s6)) (lenA _ _ (Nat.le_trans (tk _) (by decide)) (dr _)) fun p7 H7 s7 q7 => ?_
        have ss := (s5.trans s6).trans s7
        have r7 := r4.same (ban_same ss)
        exact qq _ _ H7 (up2 (u4.same ss)) (bb4.trans (But.same ss)) (.tup q7 ((r7.take i).append (r7.drop (i + 1)))) (way0 g i)
      -- doubled
      refine ⟨_, rfl, rfl, _, rfl, ite2 (fun _ => ?_) (fun _ => ?_)⟩
      · refine ⟨_, rfl, _, rfl, _, _, rfl, rfl, (i : Int) + 1, rfl, ?_⟩
        refine ban_cut sq4 hB4 (cut_to1 ys i) fun p5 H5 s5 q5 => ?_
        refine ⟨_, rfl, _, rfl, (i : Int), rfl, no_part ?_⟩
        refine ban_cut (tup_same (ban_same s5) sq4) (hB4.same s5) (cut_fromA ys i) fun p6 H6 s6 q6 => ?_
        refine ban_cat (tup_same (ban_same s6) q5) q6 (hB4.same (s5.trans s6)) (lenA _ _ (Nat.le_trans (tk _) (by decide)) (dr _)) fun p7 H7 s7 q7 => ?_
        have ss := (s5.trans s6).trans s7
        have r7 := r4.same (ban_same ss)
        exact qq _ _ H7 (up2 (u4.same ss)) (bb4.trans (But.same ss)) (.tup q7 ((r7.take (i + 1)).append (r7.drop i))) (way1 g i)
      -- a list
      refine ⟨_, rfl, rfl, _, rfl, ite2 (fun _ => ?_) (fun _ => ?_)⟩
      · refine ⟨_, rfl, cc, ys, rfl, .inr (tup_same ban_on sq4), fun l5 n5 => ?_⟩
        have s5 := same_new (o := .lst ys) n5
        exact qq _ _ _ (up2 (u4.same s5)) (bb4.trans (But.same s5)) (.lst (SqL.of (ban_new hB4 n5)) (r4.same (ban_same s5))) (way3 g)
      obtain ⟨y, hy⟩ : ∃ y, ys[i]? = some y := ⟨_, List.getElem?_eq_getElem hi⟩
      -- one more
      refine ⟨_, rfl, rfl, _, rfl, ite2 (fun _ => ?_) (fun _ => ?_)⟩
      · refine ⟨_, rfl, _, rfl, Nat.zero_le _, fun t5 n5 => ?_⟩
        have s5 := same_new (o := .tup []) n5
        have k5 := ban_new (o := .tup []) hB4 n5
        have hB5 := hB4.same s5
        refine ⟨_, rfl, _, rfl, cc, ys, (i : Int), y, rfl, rfl, tup_same (ban_on.trans s5) sq4, atI_nat hy, (by show 4 ≤ sizeLine; decide), fun l6 n6 => ?_⟩
        have s6 := same_new (o := .lst [V.int 0, .non, .ref t5, y]) n6
        have s46 := s5.trans s6
        have r6 := r4.same (ban_same s46)
        obtain ⟨e, he, de⟩ := r6.get hy
        have u6 := u4.same s46
        have da : DdAll K (ban B _) [V.int 0, .non, .ref t5, y] [.int 0, .none, .tuple [], e] := .cons (.int 0) (.cons .non (.cons (.tup (SqT.of (ban_same s6 _ _ k5)) .nil) (.cons de .nil)))
        refine ⟨u, l6, _, c + 1 + 1, rfl, u6, by omega, (u4.same s5).ne n6, SqL.of upd_same, (fun e => by cases e), (by show 4 ≤ 1000; decide), fun x H7 hx u7 b7 => ?_⟩
        obtain ⟨e', me, he'⟩ := (da.same (ban_but uB b7)).mem hx
        have oe : e' ∈ ds ∨ Odd e' := by
          simp only [List.mem_cons, List.not_mem_nil, or_false] at me
          rcases me with rfl | rfl | rfl | rfl
          · exact .inr (odd_i (by decide))
          · exact .inr (odd_leaf leaf_none fun ds => ⟨fun e => PyData.noConfusion e, fun e => PyData.noConfusion e⟩)
          · exact .inr odd_e.1
          · exact .inl (List.mem_of_getElem? he)
        have hB7 := (hB5.same s6).but b7 u7.at
        refine ⟨(by show 1 ≤ sizeLine; decide), fun p8 n8 => ?_⟩
        have s8 := same_new (o := .tup [x]) n8
        have q8 : SqT K (ban B _) p8 [x] := SqT.of (ban_new hB7 n8)
        have k48 : Same (ban B H4) (ban B (upd H7 p8 (.tup [x]))) := (ban_same s46).trans ((ban_but uB b7).trans (ban_same s8))
        refine ban_cat (tup_same k48 sq4) q8 (hB7.same s8) (lenA _ _ (by omega) (by show 1 ≤ 1000; decide)) fun p9 H9 s9 q9 => ?_
        have r9 := r4.same (k48.trans (ban_same s9))
        exact qq _ _ H9 (((u7.same s8).same s9).up (by omega)) (bb4.trans ((But.same s46).trans (b7.trans (But.same (s8.trans s9))))) (.tup q9 (r9.append (.cons (he'.same ((ban_same s8).trans (ban_same s9))) .nil))) (way5 g oe)
      -- changed within
      refine ⟨_, rfl, _, rfl, (i : Int), rfl, ?_⟩
      refine ban_cut sq4 hB4 (cut_to ys i) fun p5 H5 s5 q5 => ?_
      have sq5 := tup_same (ban_same s5) sq4
      have u5 := u4.same s5
      have hB5 := hB4.same s5
      have r5 := r4.same (ban_same s5)
      obtain ⟨e, he, de⟩ := r5.get hy
      have me := List.mem_of_getElem? he
      have dt : PyData.depth (.tuple ds) = PyData.depthAll ds + 1 := by rw [PyData.depth]
      have dm := dep_mem me
      cases lv with
      | zero => omega
      | succ lv =>
        refine ⟨_, rfl, _, rfl, _, rfl, cc, ys, (i : Int), y, rfl, rfl, tup_same ban_on sq5, atI_nat hy, u, y, e, B, c + 1 + 1, rfl, u5, by omega, uB, hB5, de, (fit_of g me).1, by omega, Nat.le_trans (lx_tup me) xl, fun v' d' H6 u6 b6 dd6 ft => ?_⟩
        have hB6 := hB5.but b6 u6.at
        refine ⟨(by show 1 ≤ sizeLine; decide), fun p7 n7 => ?_⟩
        have s7 := same_new (o := .tup [v']) n7
        have q7 : SqT K (ban B _) p7 [v'] := SqT.of (ban_new hB6 n7)
        have hB7 := hB6.same s7
        have k57 : Same (ban B H5) (ban B (upd H6 p7 (.tup [v']))) := (ban_but uB b6).trans (ban_same s7)
        refine ban_cat (tup_same k57 q5) q7 hB7 (lenA _ _ (Nat.le_trans (tk _) (by decide)) (by show 1 ≤ 1000; decide)) fun p8 H8 s8 q8 => ?_
        refine ⟨_, rfl, _, rfl, _, _, rfl, rfl, (i : Int) + 1, rfl, no_part ?_⟩
        have k58 : Same (ban B H5) (ban B H8) := k57.trans (ban_same s8)
        refine ban_cut (tup_same k58 sq5) (hB7.same s8) (cut_from1 ys i) fun p9 H9 s9 q9 => ?_
        refine ban_cat (tup_same (ban_same s9) q8) q9 (hB7.same (s8.trans s9)) (lenA _ _ ?_ (dr _)) fun pa Ha sa qa => ?_
        · rw [List.length_append, List.length_take]
          show _ + 1 ≤ _
          omega
        have s79 := (s8.trans s9).trans sa
        have ra := r5.same (k57.trans (ban_same s79))
        exact qq _ _ Ha (((u6.same s7).same s79).up (by omega)) (bb4.trans ((But.same s5).trans (b6.trans (But.same (s7.trans s79))))) (.tup qa (((ra.take i).append (.cons (dd6.same ((ban_same s7).trans (ban_same s79))) .nil)).append (ra.drop (i + 1)))) (way4 g he ft)
theorem ok_odd (M : Bl mg) (F : At K mg "_law_odd" sOdd ["_law_pot_here", "_law_value"]) {k : Nat} (h1 : Has P w K mg base k "_law_take" ["_law_pot_here", "_law_many"] spTk) (h2 : Has P w K mg base k "_law_of" ["_law_pot_here", "_law_some"] (spO K)) : ∀ lv : Nat, Has P w K mg base (k + lv + 1) "_law_odd" ["_law_pot_here", "_law_value"] (spOdd K lv)
  | 0 => ok_odd1 (lv := 0) M F h1 h2 (Has.none F fun _ _ _ _ h => h)
  | lv + 1 => ok_odd1 (lv := lv + 1) M F (h1.up (by omega)) (h2.up (by omega)) (ok_odd M F h1 h2 lv)
end
end K37
set_option Elab.async false
set_option pp.maxSteps 500
set_option pp.deepTerms.threshold 8
set_option pp.deepTerms false
set_option linter.all false
set_option maxRecDepth 100000
namespace K37
open PySem PySem.Spec PyProof.Rows L2 Lj
/-! ### the drawn plan -/
theorem code2 (a b : Int) : TS.code (10 ^ 19) [a, b] = a * 10 ^ 19 + b := by
  simp [TS.code]
theorem lex2 {m n a b c d : Int} (h : TS.code (10 ^ 19) [a, b] ≤ TS.code (10 ^ 19) [c, d]) (ne : [a, b] ≠ [c, d]) (b0 : 0 ≤ b) (b1 : b ≤ n - 1) (d0 : 0 ≤ d) (d1 : d ≤ n - 1) (n8 : n ≤ 8) : HT.lexLt [a, b] [c, d] = true := by
  rw [code2, code2] at h
  rw [HT.lexLt_cons]
  by_cases e : a = c
  · subst e
    rw [if_pos rfl, HT.lexLt_cons]
    have nb : b ≠ d := fun z => ne (by rw [z])
    rw [if_neg nb]
    exact decide_eq_true (by omega)
  · rw [if_neg e]
    exact decide_eq_true (by omega)
theorem plan_ok {ys : List (List Int)} {n m : Int} (h : ∀ y ∈ ys, ∃ a b, y = [a, b] ∧ 0 ≤ a ∧ a ≤ m ∧ 0 ≤ b ∧ b ≤ n - 1) (n8 : n ≤ 8) (nd : ys.Nodup) (pw : ys.Pairwise (fun x y => TS.code (10 ^ 19) x ≤ TS.code (10 ^ 19) y)) : isPl n m (.tuple (ys.map fun y => .tuple (y.map .int))) = true := by
  have e1 : (ys.map fun y => PyData.tuple (y.map .int)).all (isEnt n m) = true := by
    rw [List.all_eq_true]
    intro d hd
    obtain ⟨y, my, rfl⟩ := List.mem_map.mp hd
    obtain ⟨a, b, rfl, a0, a1, b0, b1⟩ := h y my
    show ((decide (0 ≤ a) && decide (a ≤ m)) && (decide (0 ≤ b) && decide (b ≤ n - 1))) = true
    rw [decide_eq_true a0, decide_eq_true a1, decide_eq_true b0, decide_eq_true b1]
    rfl
  have e2 : ascD (ys.map fun y => PyData.tuple (y.map .int)) = true := by
    unfold ascD
    rw [List.all_eq_true]
    intro x hx
    obtain ⟨i, mi, rfl⟩ := List.mem_map.mp hx
    rw [List.mem_range, List.length_map] at mi
    have l1 : i < ys.length := by omega
    have l2 : i + 1 < ys.length := by omega
    have p := List.pairwise_iff_getElem.mp pw i (i + 1) l1 l2 (Nat.lt_succ_self _)
    have q := List.pairwise_iff_getElem.mp nd i (i + 1) l1 l2 (Nat.lt_succ_self _)
    obtain ⟨a, b, ea, _, _, b0, b1⟩ := h _ (List.getElem_mem l1)
    obtain ⟨c, d, ec, _, _, d0, d1⟩ := h _ (List.getElem_mem l2)
    rw [ea, ec] at p q
    unfold ltAt
    rw [List.getD_eq_getElem?_getD, List.getD_eq_getElem?_getD, List.getElem?_map, List.getElem?_map, List.getElem?_eq_getElem l1, List.getElem?_eq_getElem l2, ea, ec]
    exact lex2 (m := m) p q b0 b1 d0 d1 n8
  show (_ && _) = true
  rw [e1, e2]
  rfl
/-! ### what is small -/
def Prt (e : PyData) : Prop := gd e ∧ bt e ≤ 6000 ∧ e.depth ≤ 1 ∧ lx e ≤ 3
theorem bts_le : ∀ {es : List PyData}, (∀ e ∈ es, bt e ≤ 6000) → bts es ≤ 6000 * es.length
  | [], _ => by rw [bts]; exact Nat.zero_le _
  | e :: es, h => by
    have a := h e List.mem_cons_self
    have b := bts_le (es := es) fun x m => h x (List.mem_cons_of_mem _ m)
    rw [bts, List.length_cons]
    omega
def Smq (d : PyData) : Prop := gd d ∧ bt d ≤ 200000 ∧ d.depth ≤ 2 ∧ lx d ≤ 30
theorem sm_tup {es : List PyData} (h : ∀ e ∈ es, Prt e) (l : es.length ≤ 30) : Smq (.tuple es) := by
  have a : gds es := gds_all.mpr fun e m => (h e m).1
  have b := bts_le fun e m => (h e m).2.1
  have c : PyData.depthAll es ≤ 1 := dep_all fun e m => (h e m).2.2.1
  have d : lxs es ≤ 3 := lx_all fun e m => (h e m).2.2.2
  refine ⟨by rw [gd]; exact a, by rw [bt]; omega, by rw [PyData.depth]; omega, ?_⟩
  rw [lx]
  exact Nat.max_le.mpr ⟨l, by omega⟩
theorem Smq.sm {d : PyData} (h : Smq d) : Sm d := ⟨h.1, by have := h.2.1; omega, by have := h.2.2.1; omega, by have := h.2.2.2; omega⟩
theorem Smq.fit {d e : PyData} (h : Smq d) (f : Fit d e) : Sm e := ⟨f.1, by have := h.2.1; have := f.2.1; omega, by have := h.2.2.1; have := f.2.2.1; omega, by have := h.2.2.2; have := f.2.2.2; omega⟩
theorem prt2 {a b : Int} (ha : Leaf (.int a)) (hb : Leaf (.int b)) : Prt (.tuple [.int a, .int b]) := by
  refine ⟨?_, ?_, ?_, ?_⟩ <;> simp [gd, gds, bt, bts, PyData.depth, PyData.depthAll, lx, lxs, ha, hb]
theorem leaf_20 {a : Int} (h0 : -1 ≤ a) (h1 : a ≤ 10 ^ 20) : Leaf (.int a) := leaf_i (by
  have z : (10 ^ 20 : Nat) < 2 ^ 1000 := by decide +kernel
  omega)
def more : List PyData := [.tuple [.tuple [.int 0, .bool true]], .tuple [.tuple [.bool false, .int 0]], .tuple [.tuple [.int 0, .int 0, .int 0]], .tuple [.tuple [.int 0]], .tuple [.list [.int 0, .int 0]], .list [], .tuple [], .none, .str "", .int 0, .dict []]
theorem more_sm : ∀ d ∈ more, Sm d := by
  have z : Leaf (.int 0) := leaf_i (by decide)
  have y : Leaf (.str "") := leaf_w (by decide)
  intro d m
  simp only [more, List.mem_cons, List.not_mem_nil, or_false] at m
  rcases m with rfl | rfl | rfl | rfl | rfl | rfl | rfl | rfl | rfl | rfl | rfl <;> refine ⟨?_, ?_, ?_, ?_⟩ <;> simp [gd, gds, bt, bts, PyData.depth, PyData.depthAll, PyData.depthKv, lx, lxs, z, y]
theorem put_mem {kvs : List (List Key × V)} {k : List Key} {v : V} : ∀ kv ∈ putK kvs k v, kv.1 = k ∨ ∃ kv' ∈ kvs, kv.1 = kv'.1 := by
  intro kv m
  unfold putK at m
  split at m
  · obtain ⟨kv', m', e⟩ := List.mem_map.mp m
    refine .inr ⟨kv', m', ?_⟩
    rw [← e]
    split <;> rfl
  · rcases List.mem_append.mp m with m | m
    · exact .inr ⟨kv, m, rfl⟩
    · cases List.mem_singleton.mp m
      exact .inl rfl
theorem put_len {kvs : List (List Key × V)} {k : List Key} {v : V} : (putK kvs k v).length ≤ kvs.length + 1 := by
  unfold putK
  split
  · rw [List.length_map]; omega
  · rw [List.length_append, List.length_singleton]; omega
theorem ban_more {u D : Addr} {H : Hp} {o : HO} (n : H D = none) : Same (ban [u] H) (ban [u, D] (upd H D o)) := fun b x h => by
  have e := ban_on b x h
  have nb : b ≠ u := fun z => by
    subst z
    unfold ban at h
    rw [if_pos (List.mem_singleton.mpr rfl)] at h
    cases h
  have nD : b ≠ D := ne_of_none e n
  exact ban_at ((upd_ne nD).trans e) (by simp [nb, nD])
theorem ban_less {u D : Addr} {H : Hp} : Same (ban [u, D] H) (ban [u] H) := fun b x h => by
  have e := ban_on b x h
  refine ban_at e fun m => ?_
  unfold ban at h
  rw [if_pos (List.mem_cons.mpr (.inl (List.mem_singleton.mp m)))] at h
  cases h
theorem But.put {u x : Addr} {H H1 : Hp} {o : HO} (b : But u H H1) (n : H x = none) : But u H (upd H1 x o) := fun c p nc e => by
  rw [upd_ne (ne_of_none e n)]
  exact b c p nc e
theorem cut_all {K : PySem.W.Frag} {H : Hp} {xs : List V} {ds : List PyData} (r : DdAll K H xs ds) (lo hi : Option Int) : DdAll K H (cutV xs lo hi) ((ds.drop (HT.sIx xs.length 0 lo)).take (HT.sIx xs.length xs.length hi - HT.sIx xs.length 0 lo)) := (r.drop _).take _
section
variable {P : Program} {w : World} {K : PySem.W.Frag} {mg : Str → Option Value} {base : Heap}
theorem sb_line (b : Bool) : (PyData.bool b).shown.length ≤ sizeLine := by
  have : ∀ b, (PyData.bool b).shown.length ≤ 10 := by decide +kernel
  exact Nat.le_trans (this b) (by rw [sizeLine_eq]; decide)
theorem iteNN {c A B : Prop} [Decidable c] (h : c) (b : B) : if (!decide c) = true then A else B := by
  rw [decide_eq_true h]
  exact b
def MidS (K : PySem.W.Frag) (u : Addr) (H0 : Hp) (n r m : Int) (vp dr : V) (pl : Addr) (ps : List V) (pds : List PyData) (k c : Nat) (σ : L2.St) (H' : Hp) : Prop := ∃ L xs ds y6, σ = [some (.ref u), some (.int n), some (.int r), some vp, some (.int m), some dr, y6, some (.ref pl), some (.ref L), none, none, none] ∧ Ur c H' u ∧ But u H0 H' ∧ SqT K (ban [u] H') pl ps ∧ DdAll K (ban [u] H') ps pds ∧ H' L = some (.lst xs) ∧ xs.length ≤ k ∧ DdAll K (ban [u] H') xs ds ∧ (∀ d ∈ ds, Sm d) ∧ L ≠ u
def spCase : Sp := fun vs H Q _ => ∃ u : Addr, vs = [.ref u] ∧ Ur 0 H u ∧ ∀ H', But u H H' → Q (.bl true) H'
set_option maxHeartbeats 8000000 in
theorem ok_case (M : Bl mg) (m_sorted : mg "sorted" = none) (F : At K mg "_law_case" sCase ["_law_pot_here"]) {k : Nat} (h1 : Has P w K mg base k "_law_take" ["_law_pot_here", "_law_many"] spTk) (h2 : Has P w K mg base k "_law_of" ["_law_pot_here", "_law_some"] (spO K)) (h3 : Has P w K mg base k "_law_odd" ["_law_pot_here", "_law_value"] (spOdd K 2))
    (h4 : Has P w K mg base k "_law_due" ["_law_n", "_law_moment", "_law_value"] (spDue K)) (h5 : Has P w K mg base k "is_plan" ["n", "program", "moment", "value"] (spPl K)) : Has P w K mg base (k + 1) "_law_case" ["_law_pot_here"] spCase := by
  obtain ⟨_, _, cTake⟩ := h1
  obtain ⟨_, _, cOf⟩ := h2
  obtain ⟨_, _, cOdd⟩ := h3
  obtain ⟨_, _, cDue⟩ := h4
  obtain ⟨_, _, cIs_plan⟩ := h5
  refine Has.by F scCase (fun vs H Q E h => ?_) (fun f cdv A out s H vs Q E hg hr h => ?_)
  · obtain ⟨_, rfl, _⟩ := h
    rfl
  obtain ⟨u, rfl, hU, qq⟩ := h
  refine ⟨_, (pss_cons (ps_set (i := 1) scCase.nd rfl (.inl rfl) (pe_op op_add pe_int (pe_cal cTake hg hr (by rfl) (pa_cons (pv 0) (pa_cons pe_int pa_nil)))))
  (pss_cons (ps_set (i := 2) scCase.nd rfl (.inl rfl) (pe_cal cOf hg hr (by rfl) (pa_cons (pv 0) (pa_cons (pe_lst (pa_cons pe_int (pa_cons (pe_op op_pow pe_int pe_int) (pa_cons (pe_op op_add pe_int (pe_cal cTake hg hr (by rfl) (pa_cons (pv 0) (pa_cons (pe_op op_pow pe_int pe_int) pa_nil)))) (pa_cons pe_int pa_nil))))) pa_nil))))
  (pss_cons (ps_set (i := 3) scCase.nd rfl (.inl rfl) (pe_tup (pa_cons (pe_tup (pa_cons pe_str (pa_cons pe_int (pa_cons pe_int pa_nil)))) (pa_cons (pe_tup (pa_cons pe_str (pa_cons (pv 2) (pa_cons (pe_tup (pa_cons (pe_tup (pa_cons pe_str (pa_cons (pe_op op_sub (pv 1) pe_int) (pa_cons pe_int pa_nil)))) (pa_cons (pe_tup (pa_cons pe_str (pa_cons pe_int (pa_cons pe_int pa_nil)))) pa_nil))) pa_nil)))) pa_nil))))
  (Evl.pss_cut (ps_set (i := 4) scCase.nd rfl (.inl rfl) (pe_cal cOf hg hr (by rfl) (pa_cons (pv 0) (pa_cons (pe_lst (pa_cons (pe_op op_add (pe_op op_mul pe_int (pv 2)) pe_int) (pa_cons (pe_cal cTake hg hr (by rfl) (pa_cons (pv 0) (pa_cons (pe_op op_add (pe_op op_mul pe_int (pv 2)) pe_int) pa_nil))) (pa_cons pe_int (pa_cons pe_int pa_nil))))) pa_nil))))
  (pss_cons (ps_set (i := 5) scCase.nd rfl (.inl rfl) pe_dnewT)
  (Evl.pss_cut (ps_for PassesOwn.never rfl (pi_range1 (by rfl) M.range_ (pa_cons (pe_cal cTake hg hr (by rfl) (pa_cons (pv 0) (pa_cons pe_int pa_nil))) pa_nil)) (pg_name (i := 6) scCase.nd rfl (.inl rfl))
    (pss_one (ps_dput (un1 hr) (pv 5) (pe_tup (pa_cons (pe_cal cOf hg hr (by rfl) (pa_cons (pv 0) (pa_cons (pe_lst (pa_cons pe_int (pa_cons (pv 4) (pa_cons (pe_cal cTake hg hr (by rfl) (pa_cons (pv 0) (pa_cons (pe_op op_add (pv 4) pe_int) pa_nil))) pa_nil)))) pa_nil))) (pa_cons (pe_cal cTake hg hr (by rfl) (pa_cons (pv 0) (pa_cons (pv 1) pa_nil))) pa_nil))) pe_bl rfl)))
  (Evl.pss_cut (ps_set (i := 7) scCase.nd rfl (.inr rfl) (pe_callTy call_tuple_of (by rfl) M.tuple_ (by decide +kernel) (pa_cons (pe_callB (cr_sortDT (n := 2) (B := 10 ^ 19) rfl (by decide)) (by rfl) m_sorted (by decide +kernel) (pa_cons (pv 5) pa_nil)) pa_nil)))
  (Evl.pss_cut (ps_set (i := 8) scCase.nd rfl (.inl rfl) (pe_lst (pa_cons (pv 7) (pa_cons (pe_revT (pv 7)) (pa_cons (pe_op op_catA (pv 7) (pe_slice sl_tupA (pv 7) (po_some (pe_un un_neg pe_int)) po_none)) (pa_cons (pe_op op_catA (pv 7) (pe_tup (pa_cons (pe_tup (pa_cons (pv 4) (pa_cons (pv 1) pa_nil))) pa_nil))) (pa_cons (pe_op op_catA (pv 7) (pe_tup (pa_cons (pe_tup (pa_cons (pe_op op_add (pv 4) pe_int) (pa_cons pe_int pa_nil))) pa_nil))) (pa_cons (pe_op op_catA (pe_tup (pa_cons (pe_tup (pa_cons (pe_un un_neg pe_int) (pa_cons pe_int pa_nil))) pa_nil)) (pv 7)) pa_nil))))))))
  (Evl.pss_cut (ps_set (i := 8) scCase.nd rfl (.inl rfl) (pe_op op_cat (pv 8) (pe_lst (pa_cons (pe_tup (pa_cons (pe_tup (pa_cons pe_int (pa_cons pe_bl pa_nil))) pa_nil)) (pa_cons (pe_tup (pa_cons (pe_tup (pa_cons pe_bl (pa_cons pe_int pa_nil))) pa_nil)) (pa_cons (pe_tup (pa_cons (pe_tup (pa_cons pe_int (pa_cons pe_int (pa_cons pe_int pa_nil)))) pa_nil)) (pa_cons (pe_tup (pa_cons (pe_tup (pa_cons pe_int pa_nil)) pa_nil)) (pa_cons (pe_tup (pa_cons (pe_lst (pa_cons pe_int (pa_cons pe_int pa_nil))) pa_nil)) (pa_cons (pe_lst pa_nil) (pa_cons (pe_tup pa_nil) (pa_cons pe_non (pa_cons pe_str (pa_cons pe_int (pa_cons pe_dnewK pa_nil))))))))))))))
  (Evl.pss_cut (ps_set (i := 8) scCase.nd rfl (.inl rfl) (pe_op op_cat (pv 8) (pe_lc (own := [("_law_turn", 6)]) (g := gName 6) (by rfl) scCase.nd (pi_range1 (by rfl) M.range_ (pa_cons pe_int pa_nil)) (blkOk_by (own := [("_law_turn", 6)]) (N := ["_law_pot_here", "_law_n", "_law_rounds", "_law_program", "_law_moment", "_law_drawn", "_law_turn", "_law_plan", "_law_some", "_law_value", "_law_kept", "_law_due_here"]) (sc := defScope sCase) (by decide +kernel)) (fun _ _ _ _ _ => (pg_name (i := 6) scCase.nd rfl (.inl rfl))) (fun _ _ _ _ _ => pts_nil) (fun _ _ _ _ _ => (pe_cal cOdd hg hr (by rfl) (pa_cons (pv 0) (pa_cons (pv 7) pa_nil)))))))
  (pss_cons (ps_for PassesOwn.never rfl (pi_list (pv 8)) (pg_name (i := 9) scCase.nd rfl (.inl rfl))
    (pss_cons (ps_par (i := 10) (j := 11) (by rfl) scCase.nd rfl rfl (by decide) rfl rfl (pa_cons (pe_callB (call_reprA (K := K) rfl hg hr) (by rfl) M.repr_ (by decide +kernel) (pa_cons (pv 9) pa_nil)) (pa_cons (pe_cal cDue hg hr (by rfl) (pa_cons (pv 1) (pa_cons (pv 4) (pa_cons (pv 9) pa_nil)))) pa_nil)) (by rfl))
  (pss_one (ps_if (PW.pt (pw_or (pt_cmpR op_ne (pe_callB (call_reprA (K := K) rfl hg hr) (by rfl) M.repr_ (by decide +kernel) (pa_cons (pe_cal cIs_plan hg hr (by rfl) (pa_cons (pv 1) (pa_cons (pv 3) (pa_cons (pv 4) (pa_cons (pv 9) pa_nil))))) pa_nil)) (pe_callB (call_reprA (K := K) rfl hg hr) (by rfl) M.repr_ (by decide +kernel) (pa_cons (pv 11) pa_nil)) (nomark _)) (pw_or1 (pt_cmpR op_ne (pe_callB (call_reprA (K := K) rfl hg hr) (by rfl) M.repr_ (by decide +kernel) (pa_cons (pv 9) pa_nil)) (pv 10) (nomark _)))))
    (pss_one (ps_ret pe_bl))
    pss_nil))))
  (pss_one (ps_ret (pe_cmpR op_is_bl (pe_cal cIs_plan hg hr (by rfl) (pa_cons (pv 1) (pa_cons (pv 3) (pa_cons (pv 4) (pa_cons (pv 7) pa_nil))))) pe_bl (nomark _))))))))))))))), ?_⟩
  have big18 : big_lt (n := 10 ^ 18) (by decide) (by decide) = big_lt (by decide) (by decide) := rfl
  -- n, the rounds
  refine ⟨_, rfl, u, 8, 0, rfl, hU, by decide, by decide, big_lt (by decide) (by decide), fun n0 H1 n00 n01 u1 b1 => ?_⟩
  refine ⟨1, n0, rfl, rfl, ?_⟩
  refine ⟨_, rfl, 10, 18, rfl, rfl, ⟨by decide, by decide, by decide⟩, _, rfl, 10, 18, rfl, rfl, ⟨by decide, by decide, by decide⟩, u, _, 0 + 1, rfl, u1, by decide, (by show (0 : Int) < 10 ^ 18; decide), big_lt (by show (0 : Int) ≤ 10 ^ 18; decide) (by show (10 ^ 18 : Int) ≤ 10 ^ 40; decide), fun z0 H2 z00 z01 u2 b2 => ?_⟩
  have z01' : z0 < 10 ^ 18 := z01
  refine ⟨1, z0, rfl, rfl, (by show 4 ≤ sizeLine; decide), fun l3 n3 => ?_⟩
  have s3 := same_new (o := .lst [V.int 3, .int (10 ^ 18), .int (1 + z0), .int 1]) n3
  have u3 := u2.same s3
  refine ⟨u, l3, _, 0 + 1 + 1, rfl, u3, by decide, u2.ne n3, SqL.of upd_same, (fun e => by cases e), (by show 4 ≤ 1000; decide), fun x H4 hx u4 b4 => ?_⟩
  obtain ⟨r, rfl, r0, r1⟩ : ∃ r : Int, x = .int r ∧ 1 ≤ r ∧ r ≤ 10 ^ 18 := by
    simp only [List.mem_cons, List.not_mem_nil, or_false] at hx
    rcases hx with rfl | rfl | rfl | rfl
    · exact ⟨3, rfl, by decide, by decide⟩
    · exact ⟨_, rfl, by show (1 : Int) ≤ 10 ^ 18; decide, by show (10 ^ 18 : Int) ≤ 10 ^ 18; decide⟩
    · exact ⟨_, rfl, by omega, by omega⟩
    · exact ⟨1, rfl, by decide, by decide⟩
  have bb4 : But u H H4 := (b1.trans b2).trans ((But.same s3).trans b4)
  -- the program
  refine ⟨(by show 3 ≤ sizeLine; decide), fun t5 n5 => ⟨_, rfl, _, rfl, _, 1, rfl, rfl, (by show 3 ≤ sizeLine; decide), fun t6 n6 => ⟨(by show 3 ≤ sizeLine; decide), fun t7 n7 => ⟨(by show 2 ≤ sizeLine; decide), fun t8 n8 => ⟨(by show 3 ≤ sizeLine; decide), fun t9 n9 => ⟨(by show 2 ≤ sizeLine; decide), fun t10 n10 => ?_⟩⟩⟩⟩⟩⟩
  have s10 := (same_new (o := .tup [V.str "set", .int 0, .int 1]) n5).trans ((same_new (o := .tup [V.str "scale", .int (1 + n0 - 1), .int 0]) n6).trans ((same_new (o := .tup [V.str "scale", .int 0, .int 1]) n7).trans ((same_new (o := .tup [V.ref t6, .ref t7]) n8).trans ((same_new (o := .tup [V.str "loop", .int r, .ref t8]) n9).trans (same_new (o := .tup [V.ref t5, .ref t9]) n10)))))
  have u10 := u4.same s10
  have b10 := bb4.trans (But.same s10)
  generalize upd _ t10 _ = H10 at s10 u10 b10
  -- the moment
  refine ⟨fun σ H' => ∃ m : Int, σ = [some (.ref u), some (.int (1 + n0)), some (.int r), some (.ref t10), some (.int m), none, none, none, none, none, none, none] ∧ Ur 5 H' u ∧ But u H H' ∧ 0 ≤ m ∧ m ≤ 2 * 10 ^ 18 + 1, ?_, ?_⟩
  · refine ⟨_, rfl, _, rfl, 2, r, rfl, rfl, .inl ⟨by decide, by decide⟩, _, 1, rfl, rfl, _, rfl, _, rfl, 2, r, rfl, rfl, .inl ⟨by decide, by decide⟩, _, 2, rfl, rfl, u, _, _, rfl, u10, by decide, by omega, big_lt (by omega) (by omega), fun z1 H11 z10 z11 u11 b11 => ?_⟩
    refine ⟨(by show 4 ≤ sizeLine; decide), fun l12 n12 => ?_⟩
    have s12 := same_new (o := .lst [V.int (2 * r + 1), .int z1, .int 0, .int 1]) n12
    refine ⟨u, l12, _, _, rfl, u11.same s12, by decide, u11.ne n12, SqL.of upd_same, (fun e => by cases e), (by show 4 ≤ 1000; decide), fun x H13 hx u13 b13 => ?_⟩
    obtain ⟨m, rfl, m0, m1⟩ : ∃ m : Int, x = .int m ∧ 0 ≤ m ∧ m ≤ 2 * 10 ^ 18 + 1 := by
      simp only [List.mem_cons, List.not_mem_nil, or_false] at hx
      rcases hx with rfl | rfl | rfl | rfl
      · exact ⟨_, rfl, by omega, by omega⟩
      · exact ⟨_, rfl, by omega, by omega⟩
      · exact ⟨0, rfl, by decide, by decide⟩
      · exact ⟨1, rfl, by decide, by decide⟩
    exact ⟨m, rfl, u13, b10.trans (b11.trans ((But.same s12).trans b13)), m0, m1⟩
  rintro σ H13 ⟨m, rfl, u13, b13, m0, m1⟩
  clear u1 b1 u2 b2 s3 u3 u4 b4 bb4 u10 b10 s10
  have nb : 1 ≤ 1 + n0 ∧ 1 + n0 ≤ 8 := ⟨by omega, by omega⟩
  generalize 1 + n0 = n at nb
  -- what is drawn
  refine fun dr ndr => ?_
  have sdr := same_new (o := .dT []) ndr
  have nHdr : H dr = none := u13.free b13 ndr
  refine ⟨fun σ H' => ∃ kvs y6, σ = [some (.ref u), some (.int n), some (.int r), some (.ref t10), some (.int m), some (.ref dr), y6, none, none, none, none, none] ∧ Ur 24 H' u ∧ But u H H' ∧ H' dr = some (.dT kvs) ∧ kvs.length ≤ 6 ∧ ∀ kv ∈ kvs, ∃ a b : Int, kv.1 = [Sum.inl a, Sum.inl b] ∧ 0 ≤ a ∧ a ≤ m ∧ 0 ≤ b ∧ b ≤ n - 1, ?_, ?_⟩
  · refine ⟨_, rfl, u, 7, 5, rfl, u13.same sdr, by decide, by decide, big_lt (by decide) (by decide), fun z2 H14 z20 z21 u14 b14 => ⟨z2, rfl, by omega, by omega, ?_⟩⟩
    have nud : dr ≠ u := u13.ne ndr
    refine for_range (lo := 0) (n := z2.toNat) (fun i σ H' => ∃ kvs y6, σ = [some (.ref u), some (.int n), some (.int r), some (.ref t10), some (.int m), some (.ref dr), y6, none, none, none, none, none] ∧ Ur (6 + 3 * i) H' u ∧ But u H H' ∧ H' dr = some (.dT kvs) ∧ kvs.length ≤ i ∧ ∀ kv ∈ kvs, ∃ a b : Int, kv.1 = [Sum.inl a, Sum.inl b] ∧ 0 ≤ a ∧ a ≤ m ∧ 0 ≤ b ∧ b ≤ n - 1) ⟨[], none, rfl, u14, (b13.trans (But.same sdr)).trans b14, b14 _ _ nud upd_same, Nat.le_refl _, fun kv h => nomatch h⟩ ?_ ?_
    · rintro i σ H15 hi ⟨kvs, y6, rfl, u15, b15, e15, l15, k15⟩
      refine ⟨_, rfl, _, rfl, _, rfl, _, rfl, _, rfl, m, 1, rfl, rfl, u, _, _, rfl, u15, by omega, by omega, big_lt (by omega) (by omega), fun z3 H16 z30 z31 u16 b16 => ?_⟩
      refine ⟨(by show 3 ≤ sizeLine; decide), fun l17 n17 => ?_⟩
      have s17 := same_new (o := .lst [V.int 0, .int m, .int z3]) n17
      refine ⟨u, l17, _, _, rfl, u16.same s17, by omega, u16.ne n17, SqL.of upd_same, (fun e => by cases e), (by show 3 ≤ 1000; decide), fun x H18 hx u18 b18 => ?_⟩
      obtain ⟨a, rfl, a0, a1⟩ : ∃ a : Int, x = .int a ∧ 0 ≤ a ∧ a ≤ m := by
        simp only [List.mem_cons, List.not_mem_nil, or_false] at hx
        rcases hx with rfl | rfl | rfl
        · exact ⟨0, rfl, by decide, m0⟩
        · exact ⟨m, rfl, m0, Int.le_refl _⟩
        · exact ⟨z3, rfl, z30, by omega⟩
      refine ⟨_, rfl, _, rfl, u, n, _, rfl, u18, by omega, by omega, big_lt (by omega) (by omega), fun b H19 b0 b1 u19 b19 => ?_⟩
      refine ⟨(by show 2 ≤ sizeLine; decide), fun t20 n20 => ?_⟩
      have s20 := same_new (o := .tup [V.int a, .int b]) n20
      have ch : But u H15 _ := (b16.trans (But.same s17)).trans ((b18.trans b19).trans (But.same s20))
      have e20 := ch _ _ nud e15
      have nHd : H dr = none := nHdr
      refine ⟨dr, _, rfl, DPut.t (k := [Sum.inl a, Sum.inl b]) e20 upd_same (by rw [sizeLine_eq]; omega), _, _, rfl, ?_, ?_, upd_same, ?_, ?_⟩
      · exact ((u19.same s20).but But.upd nud.symm).up (by omega)
      · exact But.put (b15.trans ch) nHd
      · exact Nat.le_trans put_len (by omega)
      · intro kv hk
        rcases put_mem kv hk with e | ⟨kv', mk, e⟩
        · exact ⟨a, b, e, a0, a1, b0, by omega⟩
        · obtain ⟨a', b', e', r'⟩ := k15 kv' mk
          exact ⟨a', b', e.trans e', r'⟩
    · rintro σ H15 ⟨kvs, y6, rfl, u15, b15, e15, l15, k15⟩
      exact ⟨kvs, y6, rfl, u15.up (by omega), b15, e15, by omega, k15⟩
  rintro σ H21 ⟨kvs, y6, rfl, u21, b21, e21, l21, k21⟩
  clear u13 sdr
  -- the plan
  refine ⟨fun σ H' => ∃ (pl : Addr) (ys : List (Addr × List Int)), σ = [some (.ref u), some (.int n), some (.int r), some (.ref t10), some (.int m), some (.ref dr), y6, some (.ref pl), none, none, none, none] ∧ Ur 24 H' u ∧ But u H H' ∧ SqT K (ban [u] H') pl (ys.map fun y => V.ref y.1) ∧ DdAll K (ban [u] H') (ys.map fun y => V.ref y.1) (ys.map fun y => .tuple (y.2.map .int)) ∧ ys.length ≤ 6 ∧ (∀ y ∈ ys, ∃ a b : Int, y.2 = [a, b] ∧ 0 ≤ a ∧ a ≤ m ∧ 0 ≤ b ∧ b ≤ n - 1) ∧ (ys.map (·.2)).Nodup ∧ (ys.map (·.2)).Pairwise (fun x y => TS.code (10 ^ 19) x ≤ TS.code (10 ^ 19) y), ?_, ?_⟩
  · refine ⟨_, rfl, dr, kvs, rfl, .inl e21, by omega, fun kv mk => ?_, fun ys p pm nd pw hy np => ?_⟩
    · obtain ⟨a, b, e, a0, a1, b0, b1⟩ := k21 kv mk
      refine ⟨[a, b], e, rfl, fun x mx => ?_⟩
      simp only [List.mem_cons, List.not_mem_nil, or_false] at mx
      rcases mx with rfl | rfl
      · exact ⟨a0, by omega⟩
      · exact ⟨b0, by omega⟩
    · refine ⟨p, _, rfl, .inl ⟨SqL.of upd_same, fun pl npl => ?_⟩⟩
      have s1 := same_new (o := .lst (ys.map fun y => V.ref y.1)) np
      have s2 := same_new (o := .tup (ys.map fun y => V.ref y.1)) npl
      have hB : Held [u] (upd H21 p (.lst (ys.map fun y => V.ref y.1))) := fun x mx => by
        cases List.mem_singleton.mp mx
        exact (u21.same s1).at
      have each : ∀ y ∈ ys, ∃ a b : Int, y.2 = [a, b] ∧ 0 ≤ a ∧ a ≤ m ∧ 0 ≤ b ∧ b ≤ n - 1 := fun y my => by
        obtain ⟨kv, mk, e⟩ := List.mem_map.mp (pm.mem_iff.mp (List.mem_map.mpr ⟨y, my, rfl⟩))
        obtain ⟨a, b, e', r'⟩ := k21 kv mk
        refine ⟨a, b, ?_, r'⟩
        have e2 : y.2.map (Sum.inl : Int → Key) = [a, b].map Sum.inl := e.symm.trans e'
        have e3 := congrArg (List.map kInt) e2
        rw [kInt_map, kInt_map] at e3
        exact e3
      have len : ys.length ≤ 6 := by
        have e := pm.length_eq
        rw [List.length_map, List.length_map] at e
        omega
      have dat : ∀ l : List (Addr × List Int), (∀ y ∈ l, y ∈ ys) → DdAll K (ban [u] (upd (upd H21 p (.lst (ys.map fun y => V.ref y.1))) pl (.tup (ys.map fun y => V.ref y.1)))) (l.map fun y => V.ref y.1) (l.map fun y => .tuple (y.2.map .int)) := by
        intro l
        induction l with
        | nil => intro _; exact .nil
        | cons y l ih =>
          intro hm
          have my := hm y List.mem_cons_self
          obtain ⟨hy1, _⟩ := hy y my
          have ny : y.1 ≠ u := fun z => by
            obtain ⟨_, _, _, eu, _⟩ := u21
            rw [z, eu] at hy1
            cases hy1
          refine .cons ?_ (ih fun z mz => hm z (List.mem_cons_of_mem _ mz))
          obtain ⟨a, b, e, _⟩ := each y my
          have g := ban_at (B := [u]) ((s1.trans s2) _ _ hy1) (by simp [ny])
          show Dd K _ (.ref y.1) (.tuple (y.2.map .int))
          rw [e] at g ⊢
          exact .tup (SqT.of g) (.cons (.int a) (.cons (.int b) .nil))
      refine ⟨pl, ys, rfl, (u21.same s1).same s2, (b21.trans (But.same s1)).trans (But.same s2), SqT.of (ban_new hB npl), dat ys fun _ h => h, len, each, ?_, ?_⟩
      · refine List.Pairwise.of_map (S := fun a b => a ≠ b) (List.map (Sum.inl : Int → Key)) (fun _ _ hne e => hne (congrArg _ e)) ?_
        rw [List.map_map]
        exact nd
      · rw [List.pairwise_map]
        exact pw
  rintro σ H22 ⟨pl, ys, rfl, u22, b22, sq22, da22, len, each, nd, pw⟩
  have pok := plan_ok (n := n) (m := m) (ys := ys.map (·.2)) (fun y my => by obtain ⟨y', m', rfl⟩ := List.mem_map.mp my; exact each y' m') nb.2 nd pw
  rw [List.map_map] at pok
  have pok' : isPl n m (.tuple (ys.map fun y => .tuple (y.2.map .int))) = true := pok
  have prt : ∀ e ∈ (ys.map fun y => PyData.tuple (y.2.map .int)), Prt e := fun e me => by
    obtain ⟨y, my, rfl⟩ := List.mem_map.mp me
    obtain ⟨a, b, e, a0, a1, b0, b1⟩ := each y my
    rw [e]
    exact prt2 (leaf_20 (by omega) (by omega)) (leaf_20 (by omega) (by omega))
  have pl6 : (ys.map fun y => PyData.tuple (y.2.map .int)).length ≤ 6 := by rw [List.length_map]; exact len
  have ps6 : (ys.map fun y => V.ref y.1).length ≤ 6 := by rw [List.length_map]; exact len
  clear each nd pw pok u21 b21 e21 l21 k21 len
  generalize (ys.map fun y => PyData.tuple (y.2.map .int)) = pds at *
  generalize (ys.map fun y => V.ref y.1) = ps at *
  have plS := sm_tup prt (by omega)
  have hB22 : Held [u] H22 := fun x mx => by
    cases List.mem_singleton.mp mx
    exact u22.at
  -- around the plan
  refine ⟨MidS K u H n r m (.ref t10) (.ref dr) pl ps pds 6 24, ?_, ?_⟩
  · refine ⟨_, rfl, _, rfl, pl, ps, rfl, tup_same ban_on sq22, fun p1 n1 => ?_⟩
    have s1 := same_new (o := .tup ps.reverse) n1
    have c1 := ban_new (o := .tup ps.reverse) hB22 n1
    refine ⟨_, rfl, _, rfl, 1, rfl, (-1), rfl, no_part ?_⟩
    refine ban_cut (tup_same (ban_same s1) sq22) (hB22.same s1) rfl fun p2 H2 s2 q2 => ?_
    have lc := cutV_length ps (some (-1)) none
    refine ban_cat (tup_same (ban_same (s1.trans s2)) sq22) q2 (hB22.same (s1.trans s2)) (by rw [sizeLine_eq]; omega) fun p3 H3 s3 q3 => ?_
    have s13 := (s1.trans s2).trans s3
    refine ⟨_, rfl, _, rfl, _, rfl, (by show 2 ≤ sizeLine; decide), fun p4 n4 => ⟨(by show 1 ≤ sizeLine; decide), fun p5 n5 => ?_⟩⟩
    have s4 := same_new (o := .tup [V.int m, .int n]) n4
    have s5 := same_new (o := .tup [V.ref p4]) n5
    have hB3 := hB22.same s13
    have c4 := ban_new (o := .tup [V.int m, .int n]) hB3 n4
    have c5 : SqT K (ban [u] _) p5 [V.ref p4] := SqT.of (ban_new (o := .tup [V.ref p4]) (hB3.same s4) n5)
    have s15 := s13.trans (s4.trans s5)
    refine ban_cat (tup_same (ban_same s15) sq22) c5 (hB22.same s15) (by rw [sizeLine_eq]; show _ + 1 ≤ _; omega) fun p6 H6 s6 q6 => ?_
    have s16 := s15.trans s6
    have hB6 := hB22.same s16
    refine ⟨_, rfl, _, rfl, m, 1, rfl, rfl, (by show 2 ≤ sizeLine; decide), fun p7 n7 => ⟨(by show 1 ≤ sizeLine; decide), fun p8 n8 => ?_⟩⟩
    have s7 := same_new (o := .tup [V.int (m + 1), .int 0]) n7
    have s8 := same_new (o := .tup [V.ref p7]) n8
    have c7 := ban_new (o := .tup [V.int (m + 1), .int 0]) hB6 n7
    have c8 : SqT K (ban [u] _) p8 [V.ref p7] := SqT.of (ban_new (o := .tup [V.ref p7]) (hB6.same s7) n8)
    have s18 := s16.trans (s7.trans s8)
    refine ban_cat (tup_same (ban_same s18) sq22) c8 (hB22.same s18) (by rw [sizeLine_eq]; show _ + 1 ≤ _; omega) fun p9 H9 s9 q9 => ?_
    have s19 := s18.trans s9
    have hB9 := hB22.same s19
    refine ⟨1, rfl, (by show 2 ≤ sizeLine; decide), fun pa na => ⟨(by show 1 ≤ sizeLine; decide), fun pb nb' => ⟨_, rfl, ?_⟩⟩⟩
    have sa := same_new (o := .tup [V.int (-1), .int 0]) na
    have sb := same_new (o := .tup [V.ref pa]) nb'
    have ca := ban_new (o := .tup [V.int (-1), .int 0]) hB9 na
    have cb : SqT K (ban [u] _) pb [V.ref pa] := SqT.of (ban_new (o := .tup [V.ref pa]) (hB9.same sa) nb')
    have s1b := s19.trans (sa.trans sb)
    refine ban_cat cb (tup_same (ban_same s1b) sq22) (hB22.same s1b) (by rw [sizeLine_eq]; show 1 + _ ≤ _; omega) fun pc Hc sc qc => ?_
    have s1c := s1b.trans sc
    refine ⟨(by show 6 ≤ sizeLine; decide), fun L nL => ?_⟩
    have sL := same_new (o := .lst [V.ref pl, .ref p1, .ref p3, .ref p6, .ref p9, .ref pc]) nL
    have s1L := s1c.trans sL
    have da := da22.same (ban_same s1L)
    have lz : Leaf (.int 0) := leaf_i (by decide)
    have pm : Prt (.tuple [.int m, .int n]) := prt2 (leaf_20 (by omega) (by omega)) (leaf_20 (by omega) (by omega))
    have pm1 : Prt (.tuple [.int (m + 1), .int 0]) := prt2 (leaf_20 (by omega) (by omega)) lz
    have pmm : Prt (.tuple [.int (-1), .int 0]) := prt2 (leaf_i (by decide)) lz
    have sbL := sc.trans sL
    have saL := sb.trans sbL
    have s9L := sa.trans saL
    have s8L := s9.trans s9L
    have s7L := s8.trans s8L
    have s6L := s7.trans s7L
    have s5L := s6.trans s6L
    have s4L := s5.trans s5L
    have s3L := s4.trans s4L
    have s1L' := (s2.trans s3).trans s3L
    have dsq := tup_same (ban_same s1L) sq22
    have mk : ∀ {Ha Hz : Hp} {es : List PyData}, Same Ha Hz → DdAll K (ban [u] Hz) [V.ref pl, .ref p1, .ref p3, .ref p6, .ref p9, .ref pc] es → DdAll K (ban [u] Hz) [V.ref pl, .ref p1, .ref p3, .ref p6, .ref p9, .ref pc] es := fun _ h => h
    have all := mk s1L (.cons (.tup dsq da) (.cons (.tup (SqT.of (ban_same s1L' _ _ c1)) da.reverse) (.cons (.tup (tup_same (ban_same s3L) q3) (da.append (cut_all da (some (-1)) none)))
      (.cons (.tup (tup_same (ban_same s6L) q6) (da.append (.cons (.tup (SqT.of (ban_same s4L _ _ c4)) (.cons (.int m) (.cons (.int n) .nil))) .nil)))
      (.cons (.tup (tup_same (ban_same s9L) q9) (da.append (.cons (.tup (SqT.of (ban_same s7L _ _ c7)) (.cons (.int (m + 1)) (.cons (.int 0) .nil))) .nil)))
      (.cons (.tup (tup_same (ban_same sL) qc) (.cons (.tup (SqT.of (ban_same saL _ _ ca)) (.cons (.int (-1)) (.cons (.int 0) .nil))) da)) .nil))))))
    refine ⟨L, _, _, y6, rfl, u22.same s1L, b22.trans (But.same s1L), dsq, da, upd_same, Nat.le_refl _, all, fun d md => ?_, (u22.same s1c).ne nL⟩
    simp only [List.mem_cons, List.not_mem_nil, or_false] at md
    have ap : ∀ es : List PyData, (∀ e ∈ es, Prt e) → es.length ≤ 6 → Sm (.tuple (pds ++ es)) := fun es h l => (sm_tup (fun e me => by
      rcases List.mem_append.mp me with me | me
      · exact prt e me
      · exact h e me) (by rw [List.length_append]; omega)).sm
    have on : ∀ e : PyData, Prt e → ∀ x ∈ [e], Prt x := fun e h x mx => by
      cases List.mem_singleton.mp mx
      exact h
    rcases md with rfl | rfl | rfl | rfl | rfl | rfl
    · exact plS.sm
    · exact (sm_tup (fun e me => prt e (List.mem_reverse.mp me)) (by rw [List.length_reverse]; omega)).sm
    · refine ap _ (fun e me => prt e (List.mem_of_mem_drop (List.mem_of_mem_take me))) ?_
      rw [List.length_take, List.length_drop]
      omega
    · exact ap _ (on _ pm) (by show 1 ≤ 6; decide)
    · exact ap _ (on _ pm1) (by show 1 ≤ 6; decide)
    · exact (sm_tup (fun e me => by
        rcases List.mem_cons.mp me with rfl | me
        · exact pmm
        · exact prt e me) (by rw [List.length_cons]; omega)).sm
  rintro σ H23 ⟨L1, xs1, ds1, y6', rfl, u23, b23, sq23, da23, eL1, l1, dd1, sm1, _⟩
  clear u22 b22 sq22 da22 hB22
  have hB23 : Held [u] H23 := fun x mx => by
    cases List.mem_singleton.mp mx
    exact u23.at
  -- other values
  refine ⟨MidS K u H n r m (.ref t10) (.ref dr) pl ps pds 17 24, ?_, ?_⟩
  · refine ⟨_, rfl, (by show 2 ≤ sizeLine; decide), fun a1 na1 => ?_⟩
    refine ⟨(by show 1 ≤ sizeLine; decide), fun a2 na2 => ?_⟩
    refine ⟨(by show 2 ≤ sizeLine; decide), fun a3 na3 => ?_⟩
    refine ⟨(by show 1 ≤ sizeLine; decide), fun a4 na4 => ?_⟩
    refine ⟨(by show 3 ≤ sizeLine; decide), fun a5 na5 => ?_⟩
    refine ⟨(by show 1 ≤ sizeLine; decide), fun a6 na6 => ?_⟩
    refine ⟨(by show 1 ≤ sizeLine; decide), fun a7 na7 => ?_⟩
    refine ⟨(by show 1 ≤ sizeLine; decide), fun a8 na8 => ?_⟩
    refine ⟨(by show 2 ≤ sizeLine; decide), fun a9 na9 => ?_⟩
    refine ⟨(by show 1 ≤ sizeLine; decide), fun a10 na10 => ?_⟩
    refine ⟨Nat.zero_le _, fun a11 na11 => ?_⟩
    refine ⟨Nat.zero_le _, fun a12 na12 => ?_⟩
    refine fun a13 na13 => ?_
    refine ⟨(by show 11 ≤ sizeLine; decide), fun L2 nL2 => ?_⟩
    have s1 := same_new (o := .tup [V.int 0, .bl true]) na1
    have s2 := same_new (o := .tup [V.ref a1]) na2
    have s3 := same_new (o := .tup [V.bl false, .int 0]) na3
    have s4 := same_new (o := .tup [V.ref a3]) na4
    have s5 := same_new (o := .tup [V.int 0, .int 0, .int 0]) na5
    have s6 := same_new (o := .tup [V.ref a5]) na6
    have s7 := same_new (o := .tup [V.int 0]) na7
    have s8 := same_new (o := .tup [V.ref a7]) na8
    have s9 := same_new (o := .lst [V.int 0, .int 0]) na9
    have s10 := same_new (o := .tup [V.ref a9]) na10
    have s11 := same_new (o := .lst []) na11
    have s12 := same_new (o := .tup []) na12
    have s13 := same_new (o := .dK []) na13
    have s14 := same_new (o := .lst [V.ref a2, .ref a4, .ref a6, .ref a8, .ref a10, .ref a11, .ref a12, .non, .str "", .int 0, .ref a13]) nL2
    have B1 := hB23.same s1
    have B2 := B1.same s2
    have B3 := B2.same s3
    have B4 := B3.same s4
    have B5 := B4.same s5
    have B6 := B5.same s6
    have B7 := B6.same s7
    have B8 := B7.same s8
    have B9 := B8.same s9
    have B10 := B9.same s10
    have B11 := B10.same s11
    have B12 := B11.same s12
    have c1 := ban_new (o := .tup [V.int 0, .bl true]) hB23 na1
    have c2 := ban_new (o := .tup [V.ref a1]) B1 na2
    have c3 := ban_new (o := .tup [V.bl false, .int 0]) B2 na3
    have c4 := ban_new (o := .tup [V.ref a3]) B3 na4
    have c5 := ban_new (o := .tup [V.int 0, .int 0, .int 0]) B4 na5
    have c6 := ban_new (o := .tup [V.ref a5]) B5 na6
    have c7 := ban_new (o := .tup [V.int 0]) B6 na7
    have c8 := ban_new (o := .tup [V.ref a7]) B7 na8
    have c9 := ban_new (o := .lst [V.int 0, .int 0]) B8 na9
    have c10 := ban_new (o := .tup [V.ref a9]) B9 na10
    have c11 := ban_new (o := .lst []) B10 na11
    have c12 := ban_new (o := .tup []) B11 na12
    have c13 := ban_new (o := .dK []) B12 na13
    have t13 := s14
    have t12 := s13.trans t13
    have t11 := s12.trans t12
    have t10' := s11.trans t11
    have t9 := s10.trans t10'
    have t8 := s9.trans t9
    have t7 := s8.trans t8
    have t6' := s7.trans t7
    have t5' := s6.trans t6'
    have t4 := s5.trans t5'
    have t3 := s4.trans t4
    have t2 := s3.trans t3
    have t1 := s2.trans t2
    have t0 := s1.trans t1
    have eL := t0 _ _ eL1
    refine ⟨L1, L2, xs1, _, rfl, rfl, eL, upd_same, (by rw [sizeLine_eq]; show _ + 11 ≤ _; omega), fun L3 nL3 => ?_⟩
    have s15 := same_new (o := .lst (xs1 ++ [V.ref a2, .ref a4, .ref a6, .ref a8, .ref a10, .ref a11, .ref a12, .non, .str "", .int 0, .ref a13])) nL3
    have tt := t0.trans s15
    have mk : ∀ {Ha Hz : Hp}, Same Ha Hz → DdAll K (ban [u] Hz) [V.ref a2, .ref a4, .ref a6, .ref a8, .ref a10, .ref a11, .ref a12, .non, .str "", .int 0, .ref a13] more → DdAll K (ban [u] Hz) [V.ref a2, .ref a4, .ref a6, .ref a8, .ref a10, .ref a11, .ref a12, .non, .str "", .int 0, .ref a13] more := fun _ h => h
    have W : ∀ {Hx Hy : Hp}, Same Hx Hy → Same (ban [u] Hx) (ban [u] Hy) := fun h => ban_same h
    have all := mk tt (.cons (.tup (SqT.of (W (t2.trans s15) _ _ c2)) (.cons (.tup (SqT.of (W (t1.trans s15) _ _ c1)) (.cons (.int 0) (.cons (.bl true) .nil))) .nil))
      (.cons (.tup (SqT.of (W (t4.trans s15) _ _ c4)) (.cons (.tup (SqT.of (W (t3.trans s15) _ _ c3)) (.cons (.bl false) (.cons (.int 0) .nil))) .nil))
      (.cons (.tup (SqT.of (W (t6'.trans s15) _ _ c6)) (.cons (.tup (SqT.of (W (t5'.trans s15) _ _ c5)) (.cons (.int 0) (.cons (.int 0) (.cons (.int 0) .nil)))) .nil))
      (.cons (.tup (SqT.of (W (t8.trans s15) _ _ c8)) (.cons (.tup (SqT.of (W (t7.trans s15) _ _ c7)) (.cons (.int 0) .nil)) .nil))
      (.cons (.tup (SqT.of (W (t10'.trans s15) _ _ c10)) (.cons (.lst (SqL.of (W (t9.trans s15) _ _ c9)) (.cons (.int 0) (.cons (.int 0) .nil))) .nil))
      (.cons (.lst (SqL.of (W (t11.trans s15) _ _ c11)) .nil) (.cons (.tup (SqT.of (W (t12.trans s15) _ _ c12)) .nil) (.cons .non (.cons (.str "") (.cons (.int 0) (.cons (.dct (kvs := []) (kds := []) (W (t13.trans s15) _ _ c13) rfl .nil) .nil)))))))))))
    refine ⟨L3, _, ds1 ++ more, y6', rfl, u23.same tt, b23.trans (But.same tt), tup_same (W tt) sq23, da23.same (W tt), upd_same, ?_, (dd1.same (W tt)).append all, fun d md => ?_, (u23.same t0).ne nL3⟩
    · rw [List.length_append]
      show _ + 11 ≤ _
      omega
    · rcases List.mem_append.mp md with md | md
      · exact sm1 d md
      · exact more_sm d md
  rintro σ H24 ⟨L3, xs2, ds2, y6'', rfl, u24, b24, sq24, da24, eL3, l3', dd2, sm2, nLu⟩
  clear u23 b23 sq23 da23 hB23 eL1 dd1 sm1
  -- changed plans
  refine ⟨MidS K u H n r m (.ref t10) (.ref dr) pl ps pds 29 168, ?_, ?_⟩
  · refine ⟨_, rfl, 12, rfl, by decide, by decide, fun D nD => ?_⟩
    have nuD : D ≠ u := u24.ne nD
    have nLD : L3 ≠ D := ne_of_none eL3 nD
    have nHD : H D = none := u24.free b24 nD
    refine lc_range (lo := 0) (n := 12) (fun i H' => ∃ vs es, H' D = some (.lst vs) ∧ vs.length = i ∧ DdAll K (ban [u, D] H') vs es ∧ (∀ e ∈ es, Sm e) ∧ Ur (24 + 12 * i) H' u ∧ But u H H' ∧ SqT K (ban [u, D] H') pl ps ∧ DdAll K (ban [u, D] H') ps pds ∧ H' L3 = some (.lst xs2) ∧ DdAll K (ban [u, D] H') xs2 ds2) ?_ ?_ ?_
    · have bm := ban_more (u := u) (o := .lst []) nD
      exact ⟨[], [], upd_same, rfl, .nil, (fun e h => nomatch h), u24.same (same_new nD), b24.trans (But.same (same_new nD)), tup_same bm sq24, da24.same bm, (upd_ne nLD).trans eL3, dd2.same bm⟩
    · rintro i H25 hi ⟨vs, es, e1, e2, e3, e4, e5, e6, e7, e8, e9, e10⟩
      have hB : Held [u, D] H25 := fun x mx => by
        simp only [List.mem_cons, List.not_mem_nil, or_false] at mx
        rcases mx with rfl | rfl
        · exact e5.at
        · exact ⟨_, e1⟩
      have uB : u ∈ [u, D] := List.mem_cons_self
      refine ⟨rfl, _, rfl, _, rfl, u, .ref pl, .tuple pds, [u, D], _, rfl, e5, by omega, uB, hB, .tup e7 e8, plS.1, plS.2.2.1, (by have := plS.2.2.2; omega), fun v' d' H26 u26 b26 dd26 ft => ?_⟩
      have eD := b26 _ _ nuD e1
      have k26 := ban_but uB b26
      have kD : Same (ban [u, D] H26) (ban [u, D] (upd H26 D (.lst (vs ++ [v'])))) := ban_but (by simp) But.upd
      refine ⟨_, eD, (by rw [e2, sizeLine_eq]; omega), vs ++ [v'], es ++ [d'], upd_same, by rw [List.length_append, e2]; rfl, ?_, ?_, (u26.but But.upd nuD.symm).up (by omega), But.put (e6.trans b26) nHD, tup_same (k26.trans kD) e7, e8.same (k26.trans kD), (upd_ne nLD).trans (b26 _ _ nLu e9), e10.same (k26.trans kD)⟩
      · exact (e3.same (k26.trans kD)).append (.cons (dd26.same kD) .nil)
      · intro e me
        rcases List.mem_append.mp me with me | me
        · exact e4 e me
        · cases List.mem_singleton.mp me
          exact plS.fit ft
    · rintro H25 ⟨vs, es, e1, e2, e3, e4, e5, e6, e7, e8, e9, e10⟩
      refine ⟨L3, D, xs2, vs, rfl, rfl, e9, e1, (by rw [sizeLine_eq]; omega), fun L4 nL4 => ?_⟩
      have s4 := same_new (o := .lst (xs2 ++ vs)) nL4
      have bl : Same (ban [u, D] H25) (ban [u] (upd H25 L4 (.lst (xs2 ++ vs)))) := ban_less.trans (ban_same s4)
      refine ⟨L4, _, ds2 ++ es, y6'', rfl, e5.same s4, e6.trans (But.same s4), tup_same bl e7, e8.same bl, upd_same, by rw [List.length_append]; omega, (e10.same bl).append (e3.same bl), fun d md => ?_, e5.ne nL4⟩
      rcases List.mem_append.mp md with md | md
      · exact sm2 d md
      · exact e4 d md
  rintro σ H27 ⟨L4, xs, ds, y7, rfl, u27, b27, sq27, da27, eL4, l4, dd, sm, _⟩
  clear u24 b24 sq24 da24 eL3 dd2 sm2
  have sqp := tup_same ban_on sq27
  have dap := da27.same ban_on
  have ddx := dd.same ban_on
  -- asked
  refine ⟨_, rfl, L4, rfl, ⟨_, SqL.of eL4⟩, ?_⟩
  refine for_list (xs := xs) (fun i σ H' => ∃ y9 y10 y11, σ = [some (.ref u), some (.int n), some (.int r), some (.ref t10), some (.int m), some (.ref dr), y7, some (.ref pl), some (.ref L4), y9, y10, y11] ∧ Same H27 H') ⟨none, none, none, rfl, Same.refl _⟩ (fun i σ H' _ h => by obtain ⟨_, _, _, _, h⟩ := h; exact SqL.of (h _ _ eL4)) ?_ ?_
  · rintro i v σ H28 hv ⟨y9, y10, y11, rfl, s28⟩
    obtain ⟨d, hd, dv⟩ := ddx.get hv
    have smd := sm d (List.mem_of_getElem? hd)
    obtain ⟨g1, g2, g3⟩ := smd.line
    have dv8 := dv.same s28
    refine ⟨_, rfl, v, d, rfl, dv8, g1, g2, g3, ?_⟩
    refine ⟨_, rfl, _, rfl, _, rfl, v, d, n, m, rfl, dv8, smd.2.2.2, fun H29 s29 => ?_⟩
    refine ⟨_, _, rfl, ?_⟩
    have dv9 := dv8.same s29
    refine ⟨_, rfl, _, rfl, _, rfl, _, rfl, v, _, d, n, m, rfl, dv9, smd.2.2.2, fun H30 s30 => ?_⟩
    have dv10 := dv9.same s30
    refine ⟨.bl _, .bool _, rfl, .bl _, rfl, (by show 0 ≤ 64; decide), sb_line _, ?_⟩
    refine ⟨_, rfl, .bl _, .bool _, rfl, .bl _, rfl, (by show 0 ≤ 64; decide), sb_line _, rfl, _, rfl, iteNN rfl ?_⟩
    refine ⟨_, rfl, v, d, rfl, dv10, g1, g2, g3, _, rfl, rfl, _, rfl, iteNN rfl ?_⟩
    exact ⟨_, _, _, rfl, s28.trans (s29.trans s30)⟩
  · rintro σ H28 ⟨y9, y10, y11, rfl, s28⟩
    refine ⟨_, rfl, _, rfl, _, rfl, _, rfl, .ref pl, _, .tuple pds, n, m, rfl, .tup (tup_same s28 sqp) (dap.same s28), (by have := plS.2.2.2; omega), fun H29 s29 => ?_⟩
    refine ⟨_, true, rfl, rfl, ?_⟩
    rw [pok', decide_eq_true rfl]
    exact qq H29 ((b27.trans (But.same s28)).trans (But.same s29))
end
end K37
set_option Elab.async false
set_option pp.maxSteps 500
set_option pp.deepTerms.threshold 8
set_option pp.deepTerms false
set_option linter.all false
set_option maxRecDepth 100000
namespace K37
open PySem PySem.Spec PyProof.Rows L2 Lj
section
variable {P : Program} {w : World} {K : PySem.W.Frag} {mg : Str → Option Value} {base : Heap}
def spLaw (K : PySem.W.Frag) : Sp := fun vs H Q _ => ∃ (a : Addr) (ns : List Int), vs = [.ref a] ∧ SqL K H a (ns.map V.int) ∧ ns.length ≤ 63 ∧ ∀ H', Q (.bl true) H'
theorem rep_snoc (i : Nat) : (List.replicate i true).map V.bl ++ [V.bl true] = (List.replicate (i + 1) true).map V.bl := by
  rw [List.replicate_succ', List.map_append]
  rfl
theorem all_rep : ∀ n : Nat, (List.replicate n true).all id = true
  | 0 => rfl
  | n + 1 => by rw [List.replicate_succ, List.all_cons, all_rep n]; rfl
theorem ok_law (M : Bl mg) (F : At K mg "law" sLaw ["_law_script"]) {k : Nat} (h1 : Has P w K mg base k "_law_pot" ["_law_script", "_law_k"] (spPot K)) (h2 : Has P w K mg base k "_law_case" ["_law_pot_here"] spCase) : Has P w K mg base (k + 1) "law" ["_law_script"] (spLaw K) := by
  obtain ⟨_, _, cPot⟩ := h1
  obtain ⟨_, _, cCase⟩ := h2
  refine Has.by F scLaw (fun vs H Q E h => ?_) (fun f cdv A out s H vs Q E hg hr h => ?_)
  · obtain ⟨a, ns, rfl, _⟩ := h
    rfl
  obtain ⟨a, ns, rfl, hS, hl, q⟩ := h
  refine ⟨_, (pss_one (ps_ret (pe_callB (cr_all rfl) (by rfl) M.all_ (by decide +kernel) (pa_cons (pe_lc (own := [("_law_k", 1)]) (g := gName 1) (by rfl) scLaw.nd (pi_range1 (by rfl) M.range_ (pa_cons (pe_callB (call_max2 rfl) (by rfl) M.max_ (by decide +kernel) (pa_cons pe_int (pa_cons (pe_callB (call_min2 rfl) (by rfl) M.min_ (by decide +kernel) (pa_cons pe_int (pa_cons (pe_callB call_len_seq (by rfl) M.len_ (by decide +kernel) (pa_cons (pv 0) pa_nil)) pa_nil))) pa_nil))) pa_nil)) (blkOk_by (own := [("_law_k", 1)]) (N := ["_law_script", "_law_k"]) (sc := defScope sLaw) (by decide +kernel)) (fun _ _ _ _ _ => (pg_name (i := 1) scLaw.nd rfl (.inl rfl))) (fun _ _ _ _ _ => pts_nil) (fun _ _ _ _ _ => (pe_cal cCase hg hr (by rfl) (pa_cons (pe_cal cPot hg hr (by rfl) (pa_cons (pv 0) (pa_cons (pv 1) pa_nil))) pa_nil)))) pa_nil)))), ?_⟩
  have hlen : (ns.map V.int).length = ns.length := List.length_map _
  refine ⟨_, rfl, a, _, rfl, .inl hS, 3, _, rfl, 1, _, rfl, ?_⟩
  rw [hlen]
  obtain ⟨m, hm, hm3⟩ : ∃ m : Nat, (if (if (ns.length : Int) < 3 then (ns.length : Int) else 3) > 1 then (if (ns.length : Int) < 3 then (ns.length : Int) else 3) else 1) = (m : Int) ∧ m ≤ 3 := by
    refine ⟨(if (if (ns.length : Int) < 3 then (ns.length : Int) else 3) > 1 then (if (ns.length : Int) < 3 then (ns.length : Int) else 3) else 1).toNat, ?_, ?_⟩
    · split <;> split <;> omega
    · split <;> split <;> omega
  refine ⟨_, rfl, ?_, ?_, ?_⟩
  · rw [hm]; omega
  · rw [hm]; omega
  rw [hm]
  intro D nD
  refine lc_range (lo := 0) (n := m) (fun i H' => H' D = some (.lst ((List.replicate i true).map V.bl)) ∧ Same H H') ⟨upd_same, same_new nD⟩ ?_ ?_
  · rintro i H1 hi ⟨e1, e2⟩
    refine ⟨rfl, _, rfl, _, rfl, a, ns, _, rfl, e2.seq hS, by omega, by omega, fun H2 u s2 nu hU => ?_⟩
    have nDu : D ≠ u := ne_of_none e1 nu
    have nHu : H u = none := e2.free nu
    refine ⟨u, rfl, hU, fun H3 b3 => ?_⟩
    have eD := b3 _ _ nDu (s2 _ _ e1)
    refine ⟨_, eD, ?_, ?_, fun x o ho => ?_⟩
    · rw [List.length_map, List.length_replicate, sizeLine_eq]
      omega
    · rw [upd_same, rep_snoc]
    · rw [upd_ne (ne_of_none ho nD)]
      exact b3 _ _ (ne_of_none ho nHu) (s2 _ _ (e2 _ _ ho))
  rintro H1 ⟨e1, e2⟩
  refine ⟨D, _, rfl, SqL.of e1, ?_⟩
  rw [all_rep]
  exact q H1
end
theorem all_mk {l : PySem.W.OpenLaw} {w : World} {K : PySem.W.Frag} {h : Heap} {mg : Str → Option Value} {fa f0 f1 f2 f3 f4 f5 f6 f7 f8 f9 f10 : Addr} (X : K.In h) (G : h.Ns mainGlobals mg) (hfa : mg "law" = some (.ref fa))
    {od0 an0 od1 an1 od2 an2 od3 an3 od4 an4 od5 an5 od6 an6 od7 an7 od8 an8 od9 an9 od10 an10 : Option Addr} {sl0 sl1 sl2 sl3 sl4 sl5 sl6 sl7 sl8 sl9 sl10 : Array (Option Value)} {oc0 kV0 dc0 pm0 cd0 ct0 oc1 kV1 dc1 pm1 cd1 ct1 oc2 kV2 dc2 pm2 cd2 ct2 oc3 kV3 dc3 pm3 cd3 ct3 oc4 kV4 dc4 pm4 cd4 ct4 oc5 kV5 dc5 pm5 cd5 ct5 oc6 kV6 dc6 pm6 cd6 ct6 oc7 kV7 dc7 pm7 cd7 ct7 oc8 kV8 dc8 pm8 cd8 ct8 oc9 kV9 dc9 pm9 cd9 ct9 oc10 kV10 dc10 pm10 cd10 ct10 : Value}
    (a0 : PySem.W.nsIn K mainGlobals "is_between" = some (some (.ref f0))) (l0 : K.lookup f0 = some ⟨oc0, od0, .func (PySem.W.fnOf "is_between" "is_between" (defArgs sIs_between) (defBody sIs_between) (defScope sIs_between) .none kV0 dc0 pm0 an0 cd0 ct0), sl0⟩) (c0 : PySem.W.codeIn K cd0 "is_between" = true) (k0 : PySem.W.keepIn K (.ref f0) = true)
    (a1 : PySem.W.nsIn K mainGlobals "is_plan" = some (some (.ref f1))) (l1 : K.lookup f1 = some ⟨oc1, od1, .func (PySem.W.fnOf "is_plan" "is_plan" (defArgs sIs_plan) (defBody sIs_plan) (defScope sIs_plan) .none kV1 dc1 pm1 an1 cd1 ct1), sl1⟩) (c1 : PySem.W.codeIn K cd1 "is_plan" = true) (k1 : PySem.W.keepIn K (.ref f1) = true)
    (a2 : PySem.W.nsIn K mainGlobals "is_entry" = some (some (.ref f2))) (l2 : K.lookup f2 = some ⟨oc2, od2, .func (PySem.W.fnOf "is_entry" "is_entry" (defArgs sIs_entry) (defBody sIs_entry) (defScope sIs_entry) .none kV2 dc2 pm2 an2 cd2 ct2), sl2⟩) (c2 : PySem.W.codeIn K cd2 "is_entry" = true) (k2 : PySem.W.keepIn K (.ref f2) = true)
    (a3 : PySem.W.nsIn K mainGlobals "_law_pot" = some (some (.ref f3))) (l3 : K.lookup f3 = some ⟨oc3, od3, .func (PySem.W.fnOf "_law_pot" "_law_pot" (defArgs sPot) (defBody sPot) (defScope sPot) .none kV3 dc3 pm3 an3 cd3 ct3), sl3⟩) (c3 : PySem.W.codeIn K cd3 "_law_pot" = true) (k3 : PySem.W.keepIn K (.ref f3) = true)
    (a4 : PySem.W.nsIn K mainGlobals "_law_take" = some (some (.ref f4))) (l4 : K.lookup f4 = some ⟨oc4, od4, .func (PySem.W.fnOf "_law_take" "_law_take" (defArgs sTake) (defBody sTake) (defScope sTake) .none kV4 dc4 pm4 an4 cd4 ct4), sl4⟩) (c4 : PySem.W.codeIn K cd4 "_law_take" = true) (k4 : PySem.W.keepIn K (.ref f4) = true)
    (a5 : PySem.W.nsIn K mainGlobals "_law_of" = some (some (.ref f5))) (l5 : K.lookup f5 = some ⟨oc5, od5, .func (PySem.W.fnOf "_law_of" "_law_of" (defArgs sOf) (defBody sOf) (defScope sOf) .none kV5 dc5 pm5 an5 cd5 ct5), sl5⟩) (c5 : PySem.W.codeIn K cd5 "_law_of" = true) (k5 : PySem.W.keepIn K (.ref f5) = true)
    (a6 : PySem.W.nsIn K mainGlobals "_law_odd" = some (some (.ref f6))) (l6 : K.lookup f6 = some ⟨oc6, od6, .func (PySem.W.fnOf "_law_odd" "_law_odd" (defArgs sOdd) (defBody sOdd) (defScope sOdd) .none kV6 dc6 pm6 an6 cd6 ct6), sl6⟩) (c6 : PySem.W.codeIn K cd6 "_law_odd" = true) (k6 : PySem.W.keepIn K (.ref f6) = true)
    (a7 : PySem.W.nsIn K mainGlobals "_law_element" = some (some (.ref f7))) (l7 : K.lookup f7 = some ⟨oc7, od7, .func (PySem.W.fnOf "_law_element" "_law_element" (defArgs sElement) (defBody sElement) (defScope sElement) .none kV7 dc7 pm7 an7 cd7 ct7), sl7⟩) (c7 : PySem.W.codeIn K cd7 "_law_element" = true) (k7 : PySem.W.keepIn K (.ref f7) = true)
    (a8 : PySem.W.nsIn K mainGlobals "_law_due" = some (some (.ref f8))) (l8 : K.lookup f8 = some ⟨oc8, od8, .func (PySem.W.fnOf "_law_due" "_law_due" (defArgs sDue) (defBody sDue) (defScope sDue) .none kV8 dc8 pm8 an8 cd8 ct8), sl8⟩) (c8 : PySem.W.codeIn K cd8 "_law_due" = true) (k8 : PySem.W.keepIn K (.ref f8) = true)
    (a9 : PySem.W.nsIn K mainGlobals "_law_case" = some (some (.ref f9))) (l9 : K.lookup f9 = some ⟨oc9, od9, .func (PySem.W.fnOf "_law_case" "_law_case" (defArgs sCase) (defBody sCase) (defScope sCase) .none kV9 dc9 pm9 an9 cd9 ct9), sl9⟩) (c9 : PySem.W.codeIn K cd9 "_law_case" = true) (k9 : PySem.W.keepIn K (.ref f9) = true)
    (a10 : PySem.W.nsIn K mainGlobals "law" = some (some (.ref f10))) (l10 : K.lookup f10 = some ⟨oc10, od10, .func (PySem.W.fnOf "law" "law" (defArgs sLaw) (defBody sLaw) (defScope sLaw) .none kV10 dc10 pm10 an10 cd10 ct10), sl10⟩) (c10 : PySem.W.codeIn K cd10 "law" = true) (k10 : PySem.W.keepIn K (.ref f10) = true)
    (z0 : PySem.W.nsIn K mainGlobals "len" = some none)
    (z1 : PySem.W.nsIn K mainGlobals "abs" = some none)
    (z2 : PySem.W.nsIn K mainGlobals "int" = some none)
    (z3 : PySem.W.nsIn K mainGlobals "range" = some none)
    (z4 : PySem.W.nsIn K mainGlobals "max" = some none)
    (z5 : PySem.W.nsIn K mainGlobals "min" = some none)
    (z6 : PySem.W.nsIn K mainGlobals "all" = some none)
    (z7 : PySem.W.nsIn K mainGlobals "sum" = some none)
    (z8 : PySem.W.nsIn K mainGlobals "list" = some none)
    (z9 : PySem.W.nsIn K mainGlobals "tuple" = some none)
    (z10 : PySem.W.nsIn K mainGlobals "isinstance" = some none)
    (z11 : PySem.W.nsIn K mainGlobals "bool" = some none)
    (z12 : PySem.W.nsIn K mainGlobals "repr" = some none)
    (z13 : PySem.W.nsIn K mainGlobals "enumerate" = some none)
    (z14 : PySem.W.nsIn K mainGlobals "zip" = some none)
    (z15 : PySem.W.nsIn K mainGlobals "divmod" = some none)
    (y0 : PySem.W.nsIn K mainGlobals "sorted" = some none)
    : ∃ fd : FuncData, (∀ (s : Shared) (v : Value), BindsTo s fd ⟨[v], []⟩ [("_law_script", v)]) ∧ ∀ base : Heap, K.In base → base.Ns mainGlobals mg → FnG l.prog w K mg base 20 fa fd ["_law_script"] (spLaw K) := by
  have FIs_between := fun_mk (st := sIs_between) l0 c0 k0
  have AIs_between : At K mg "is_between" sIs_between ["value", "low", "high"] := ⟨_, _, FIs_between, FIs_between.binds (ps := ["value", "low", "high"]) fun _ _ _ _ _ _ us hl => match us, hl with | [_, _, _], _ => rfl, PySem.W.mg_of X G a0⟩
  have FIs_plan := fun_mk (st := sIs_plan) l1 c1 k1
  have AIs_plan : At K mg "is_plan" sIs_plan ["n", "program", "moment", "value"] := ⟨_, _, FIs_plan, FIs_plan.binds (ps := ["n", "program", "moment", "value"]) fun _ _ _ _ _ _ us hl => match us, hl with | [_, _, _, _], _ => rfl, PySem.W.mg_of X G a1⟩
  have FIs_entry := fun_mk (st := sIs_entry) l2 c2 k2
  have AIs_entry : At K mg "is_entry" sIs_entry ["n", "moment", "value"] := ⟨_, _, FIs_entry, FIs_entry.binds (ps := ["n", "moment", "value"]) fun _ _ _ _ _ _ us hl => match us, hl with | [_, _, _], _ => rfl, PySem.W.mg_of X G a2⟩
  have FPot := fun_mk (st := sPot) l3 c3 k3
  have APot : At K mg "_law_pot" sPot ["_law_script", "_law_k"] := ⟨_, _, FPot, FPot.binds (ps := ["_law_script", "_law_k"]) fun _ _ _ _ _ _ us hl => match us, hl with | [_, _], _ => rfl, PySem.W.mg_of X G a3⟩
  have FTake := fun_mk (st := sTake) l4 c4 k4
  have ATake : At K mg "_law_take" sTake ["_law_pot_here", "_law_many"] := ⟨_, _, FTake, FTake.binds (ps := ["_law_pot_here", "_law_many"]) fun _ _ _ _ _ _ us hl => match us, hl with | [_, _], _ => rfl, PySem.W.mg_of X G a4⟩
  have FOf := fun_mk (st := sOf) l5 c5 k5
  have AOf : At K mg "_law_of" sOf ["_law_pot_here", "_law_some"] := ⟨_, _, FOf, FOf.binds (ps := ["_law_pot_here", "_law_some"]) fun _ _ _ _ _ _ us hl => match us, hl with | [_, _], _ => rfl, PySem.W.mg_of X G a5⟩
  have FOdd := fun_mk (st := sOdd) l6 c6 k6
  have AOdd : At K mg "_law_odd" sOdd ["_law_pot_here", "_law_value"] := ⟨_, _, FOdd, FOdd.binds (ps := ["_law_pot_here", "_law_value"]) fun _ _ _ _ _ _ us hl => match us, hl with | [_, _], _ => rfl, PySem.W.mg_of X G a6⟩
  have FElement := fun_mk (st := sElement) l7 c7 k7
  have AElement : At K mg "_law_element" sElement ["_law_p", "_law_value"] := ⟨_, _, FElement, FElement.binds (ps := ["_law_p", "_law_value"]) fun _ _ _ _ _ _ us hl => match us, hl with | [_, _], _ => rfl, PySem.W.mg_of X G a7⟩
  have FDue := fun_mk (st := sDue) l8 c8 k8
  have ADue : At K mg "_law_due" sDue ["_law_n", "_law_moment", "_law_value"] := ⟨_, _, FDue, FDue.binds (ps := ["_law_n", "_law_moment", "_law_value"]) fun _ _ _ _ _ _ us hl => match us, hl with | [_, _, _], _ => rfl, PySem.W.mg_of X G a8⟩
  have FCase := fun_mk (st := sCase) l9 c9 k9
  have ACase : At K mg "_law_case" sCase ["_law_pot_here"] := ⟨_, _, FCase, FCase.binds (ps := ["_law_pot_here"]) fun _ _ _ _ _ _ us hl => match us, hl with | [_], _ => rfl, PySem.W.mg_of X G a9⟩
  have FLaw := fun_mk (st := sLaw) l10 c10 k10
  have ALaw : At K mg "law" sLaw ["_law_script"] := ⟨_, _, FLaw, FLaw.binds (ps := ["_law_script"]) fun _ _ _ _ _ _ us hl => match us, hl with | [_], _ => rfl, PySem.W.mg_of X G a10⟩
  have M : Bl mg := ⟨PySem.W.mg_none_of X G z0, PySem.W.mg_none_of X G z1, PySem.W.mg_none_of X G z2, PySem.W.mg_none_of X G z3, PySem.W.mg_none_of X G z4, PySem.W.mg_none_of X G z5, PySem.W.mg_none_of X G z6, PySem.W.mg_none_of X G z7, PySem.W.mg_none_of X G z8, PySem.W.mg_none_of X G z9, PySem.W.mg_none_of X G z10, PySem.W.mg_none_of X G z11, PySem.W.mg_none_of X G z12, PySem.W.mg_none_of X G z13, PySem.W.mg_none_of X G z14, PySem.W.mg_none_of X G z15⟩
  have m_sorted := PySem.W.mg_none_of X G y0
  refine ⟨PySem.W.fnOf "law" "law" (defArgs sLaw) (defBody sLaw) (defScope sLaw) .none kV10 dc10 pm10 an10 cd10 ct10, fun s v => .of_eq rfl, fun base _ _ => ?_⟩
  have hT : Has l.prog w K mg base 1 "_law_take" ["_law_pot_here", "_law_many"] spTk := ok_take (k := 0) ATake
  have hO : Has l.prog w K mg base 2 "_law_of" ["_law_pot_here", "_law_some"] (spO K) := ok_of M AOf hT
  have hD := ok_odd (k := 2) M AOdd (hT.up (by decide)) hO 2
  have hB := ok_btD (P := l.prog) (w := w) (base := base) (k := 0) M AIs_between
  have hE := ok_ent M AIs_entry hB
  have hP := ok_plan M AIs_plan hE
  have hU := ok_due M ADue (ok_el (P := l.prog) (w := w) (base := base) (k := 0) M AElement)
  have hC := ok_case (k := 8) M m_sorted ACase (hT.up (by decide)) (hO.up (by decide)) (hD.up (by decide)) (hU.up (by decide)) (hP.up (by decide))
  have hLaw := ok_law (k := 19) M ALaw ((ok_pot (k := 0) M APot).up (by decide)) (hC.up (by decide))

  obtain ⟨f, fd, c⟩ := hLaw
  cases hfa.symm.trans c.g
  cases hfa.symm.trans (PySem.W.mg_of X G a10)
  obtain ⟨_, _, _, e⟩ := c.lk
  cases e.symm.trans l10
  exact c.ok
end K37
open PySem PySem.W PyProof.Rows
set_option maxRecDepth 100000 in
set_option maxHeartbeats 0 in
theorem PySem.Challenge.cw_leastjournal_k37_plans_of_any_value_holds : PySem.Challenge.rw_leastjournal_k37_plans_of_any_value.Holds := by
  w_on; o_law; k_head; (case hw => w_witness2)
  k_fill
  refine Lj.walk_G (l := PySem.Challenge.rw_leastjournal_k37_plans_of_any_value) (n := 63) (k := 20) (x := "_law_script") (sp := K37.spLaw) rfl (by decide) rfl ⟨rfl, by decide, by decide⟩ (fun w h Y => PySem.W.kIn_of Y) ?F (fun _ _ a ns hl _ hS => ⟨a, ns, rfl, hS, hl, fun _ => rfl⟩)
  case F =>
    intro w mg fa h KX G hmg
    refine' K37.all_mk KX G hmg ?a0 ?l0 ?c0 ?k0 ?a1 ?l1 ?c1 ?k1 ?a2 ?l2 ?c2 ?k2 ?a3 ?l3 ?c3 ?k3 ?a4 ?l4 ?c4 ?k4 ?a5 ?l5 ?c5 ?k5 ?a6 ?l6 ?c6 ?k6 ?a7 ?l7 ?c7 ?k7 ?a8 ?l8 ?c8 ?k8 ?a9 ?l9 ?c9 ?k9 ?a10 ?l10 ?c10 ?k10 ?z0 ?z1 ?z2 ?z3 ?z4 ?z5 ?z6 ?z7 ?z8 ?z9 ?z10 ?z11 ?z12 ?z13 ?z14 ?z15 ?y0
    (case a0 => k_is); (case l0 => k_is); (case c0 => k_is); (case k0 => k_is); (case a1 => k_is); (case l1 => k_is); (case c1 => k_is); (case k1 => k_is); (case a2 => k_is); (case l2 => k_is); (case c2 => k_is); (case k2 => k_is); (case a3 => k_is); (case l3 => k_is); (case c3 => k_is); (case k3 => k_is); (case a4 => k_is); (case l4 => k_is); (case c4 => k_is); (case k4 => k_is); (case a5 => k_is); (case l5 => k_is); (case c5 => k_is); (case k5 => k_is); (case a6 => k_is); (case l6 => k_is); (case c6 => k_is); (case k6 => k_is); (case a7 => k_is); (case l7 => k_is); (case c7 => k_is); (case k7 => k_is); (case a8 => k_is); (case l8 => k_is); (case c8 => k_is); (case k8 => k_is); (case a9 => k_is); (case l9 => k_is); (case c9 => k_is); (case k9 => k_is); (case a10 => k_is); (case l10 => k_is); (case c10 => k_is); (case k10 => k_is); (case z0 => k_is); (case z1 => k_is); (case z2 => k_is); (case z3 => k_is); (case z4 => k_is); (case z5 => k_is); (case z6 => k_is); (case z7 => k_is); (case z8 => k_is); (case z9 => k_is); (case z10 => k_is); (case z11 => k_is); (case z12 => k_is); (case z13 => k_is); (case z14 => k_is); (case z15 => k_is); (case y0 => k_is)
