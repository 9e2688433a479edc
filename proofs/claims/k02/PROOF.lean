import PyProof.Rows.All
import Wide.All
import OpenK.AllK
import Wide.FinOn
import HandS.ForMost
import HandS.IsInst
import HandS.Steps
import PyProof.ListStr
import PyProof.CallFns
import PyProof.Rows.RuleB_pow
import PySem.Challenge.RW_fromparts_k02_variables_and_integers_jud
set_option Elab.async false
set_option linter.all false
set_option maxRecDepth 100000
set_option maxHeartbeats 2000000
namespace My
open PySem PySem.Spec PyProof.Rows L2 TL
/-! ### defs called where no repr is under way: what A.guards says is handed down -/
structure FnOkG (P : Program) (w : World) (K : PySem.W.Frag) (mg : Str → Option Value) (base : Heap) (CX : CXT) (k : Nat) (f : Addr) (fd : FuncData) (ps : List Str) (sp : Sp) : Prop where
  arity : ∀ vs H Q E, sp vs H Q E → vs.length = ps.length
  go : ∀ (B : Around) (fr : List Env) (t : Shared) (H : Hp) (ar : Args) (us : List Value) (vs : List V) (Q : VK) (E : XK), Room k B → B.guards = some [] → Env0 P w K mg base B fr t H → BindsTo t fd ar (ps.zip us) → Vals vs us → sp vs H Q E →
    codeAny (model P w) B (.call (.ref f) ar) (CR CX fr P w H t Q E) t
theorem FnOkG.lift {P : Program} {w : World} {K : PySem.W.Frag} {mg : Str → Option Value} {base : Heap} {CX : CXT} {k : Nat} {f : Addr} {fd : FuncData} {ps : List Str} {sp : Sp}
    (F : FnOk P w K mg base CX k f fd ps sp) : FnOkG P w K mg base CX k f fd ps sp := ⟨F.len, fun B fr t H ar us vs Q E hr _ => F.run B fr t H ar us vs Q E hr⟩
section
variable {P : Program} {w : World} {K : PySem.W.Frag} {mg : Str → Option Value} {base : Heap}
theorem _root_.L2.Fun.okG {CX : CXT} {x qual : Str} {st : Stmt} {f : Addr} {fd : FuncData} {N ps : List Str} {k : Nat} {sp : Sp} (F : Fun K x qual st f fd) (S : FnScope N ps (defScope st)) (ar : ∀ vs H Q E, sp vs H Q E → vs.length = ps.length)
    (body : ∀ (cv : Value) (B : Around) (fr : List Env) (t : Shared) (H : Hp) (vs : List V) (Q : VK) (E : XK), Room k (B.deeper (envOfC qual (defScope st) t.heap.objs.size f cv)) → (B.deeper (envOfC qual (defScope st) t.heap.objs.size f cv)).guards = some [] → sp vs H Q E →
      ∃ r, PSs (cxOf CX P w K mg base N qual (defScope st) f cv B fr t H E).nox (defBody st) r ∧ r { nx := fun _ H' => Q .non H', rt := Q } (start N vs) H) : FnOkG P w K mg base CX (k + 1) f fd ps sp := by
  obtain ⟨oc, od, kV, doc, pm, an, cv, ct, osl, rfl, found, isCode⟩ := F.ex
  refine ⟨ar, fun B fr t H args us vs Q E room still env binds vals wish => ?_⟩
  have there : K.In t.heap := env.mod.kin.keeps (fun b o e => (env.bs b o e).1)
  have noLim : t.heap.NoLimit := env.mod.nolimit.keeps (fun b o e => (env.bs b o e).1)
  have kinds : ∀ y ∈ ps.zip us, (defScope st).names.lookup y.1 = some .local ∨ ((defScope st).names.lookup y.1 = some .cell ∧ ((cellsFrom (t.heap.objs.size + 1) (defScope st).names []).lookup y.1).isSome = true) := by
    rintro ⟨n, v⟩ hy
    exact (S.par n (List.of_mem_zip hy).1).imp id fun q => ⟨q, PySem.W.cellsFrom_some _ _ _ (.inl q)⟩
  refine codeAny_call_function room.depth (there _ _ found)
    rfl S.co S.gen rfl (PySem.W.codeRec_of there isCode) (binds _ _ _ _
      (wpAny_newFunctionEnv_cells S.kind kinds fun env' eq t1 start1 => ?_))
  subst eq
  refine ⟨noLim.keeps start1.toInCall.keep, codeAny_func ?_⟩
  obtain ⟨r, runs, ends⟩ := body cv B fr t H vs Q E (room.deeper _) still wish
  refine wpAny_mono (runs.nox.run [] t1 (start N vs) H _ (inv_start S room.hd env (ar _ _ _ _ wish) vals start1) ends) ?_ fun _ _ z => z
  intro fl t2 got
  cases fl with
  | ret u =>
    obtain ⟨v, σ', H', J, rv, q⟩ := got
    exact ⟨v, H', J.os, J.bare, J.base, J.hok, rv, q⟩
  | next =>
    obtain ⟨σ', H', J, q⟩ := got
    exact ⟨V.non, H', J.os, J.bare, J.base, J.hok, rfl, q⟩
  | brk => exact got.choose_spec.choose_spec.2.elim
  | cont => exact got.choose_spec.choose_spec.2.elim
end
/-! ### defs by their promises -/
structure Cal (P : Program) (w : World) (K : PySem.W.Frag) (mg : Str → Option Value) (base : Heap) (x : Str) (k : Nat) (ps : List Str) (sp : Sp) : Prop where
  ex : ∃ f fd, FnOkG P w K mg base CX0 k f fd ps sp ∧ mg x = some (.ref f) ∧ PySem.W.keepIn K (.ref f) = true ∧ Binds K fd ps []
theorem Cal.of {P : Program} {w : World} {K : PySem.W.Frag} {mg : Str → Option Value} {base : Heap} {x q : Str} {k : Nat} {ps : List Str} {sp : Sp} {st : Stmt} {f : Addr} {fd : FuncData}
    (F : Fun K x q st f fd) (hm : mg x = some (.ref f)) (hb : Binds K fd ps []) (ok : FnOkG P w K mg base CX0 k f fd ps sp) : Cal P w K mg base x k ps sp := ⟨f, fd, ok, hm, F.kp, hb⟩
section
variable {X : Cx} {k : Nat} {f : Addr} {fd : FuncData} {ps : List Str} {sp : Sp} {ds : List Value} {dvs : List V} {E : XK} {CX : CXT}
/-- the callee runs, no repr under way -/
theorem run_fnG {pins : List (Addr × Obj)} {σ : L2.St} {H : Hp} {s : Shared} {Q : VK} {us : List Value} {vs : List V} (F : FnOkG X.prog X.w X.K X.mg X.base CX k f fd ps sp) (room : Room k X.A) (still : X.A.guards = some [])
    (binds : Binds X.K fd ps ds) (dv : Vals dvs ds) (pass : Passes CX X E) (I : Inv X pins σ H s) (rel : Vals vs us) (wish : sp (vs ++ dvs) H Q E) : wpAny (model X.prog X.w) X.A (call (.ref f) us) (EP X pins σ Q) X.xe s := by
  have both := rel.append dv
  have len : (us ++ ds).length = ps.length := both.length.symm.trans (F.arity _ _ _ _ wish)
  have ran := F.go X.A X.stack s H ⟨us, []⟩ (us ++ ds) (vs ++ dvs) Q E room still I.env0 (binds s us I.kIn len) both wish
  refine wpAny_call (codeAny_mono ran ?_)
  intro r s' h
  match r, h with
  | .error e, h => exact pass pins σ H s e s' I h
  | .ok (.ret u), h => exact I.after h
  | .ok .next, h => exact False.elim h
  | .ok .brk, h => exact False.elim h
  | .ok .cont, h => exact False.elim h
end
section
variable {X : Cx} {x : Str} {k : Nat} {ps : List Str} {sp : Sp} {e : Expr} {es : List Expr} {t : TA} {p pos : Pos}
theorem pe_callC (C : Cal X.prog X.w X.K X.mg X.base x k ps sp) (room : Room k X.A) (still : X.A.guards = some []) (hg : Gl X x) (ha : PA X (e :: es) t) (hdb : (x == ("__debug__" : Str)) = false := by decide)
    (he : starEach (e :: es) X.env = (false, eval e X.env) :: starEach es X.env := by rfl) (hpl : (backTo pos (starEach es X.env)).any (·.1) = false := by rfl) :
    PE X (.Call (.Name x p) (e :: es) [] pos) (tCall sp [] E0 t) := by
  obtain ⟨f, fd, ok, hm, kp, hb⟩ := C.ex
  refine ⟨fun pins s σ H Q I h => wpAny_Call_Name_kw (ld_glob I hg hm ?_ hdb)⟩
  have args := thn (ha.run pos pins s σ H _ I h) (Q' := fun us s1 => X.K.In s1.heap ∧ wpAny (model X.prog X.w) X.A (call (.ref f) us) (EP X pins σ Q) X.xe s1) fun us s1 ⟨vs, H1, I1, r, q⟩ =>
    ⟨I1.kIn, run_fnG ok room still hb .nil pass0 I1 r q⟩
  exact PySem.W.callWith_K (h₀ := X.base) I.ok.mod.kin kp args he hpl
theorem pe_globE {x : Str} {v : V} (hg : Gl X x) (h : ∃ u, X.mg x = some u ∧ RelV v u) (hd : (x == ("__debug__" : Str)) = false := by decide) : PE X (.Name x pos) (tC v) := by
  obtain ⟨u, hm, r⟩ := h
  exact pe_glob hg hm r hd
theorem op_powW : OpR X (binaryOp .Pow) (rI (fun i j => 0 ≤ j ∧ (Builtin.Int.intBits i : Int) * j ≤ 2 ^ 27) fun i j => .int (i ^ j.toNat)) := opI fun _ _ _ _ _ _ _ hc q => PyProof.Rows.pow_int hc.1 hc.2 q
theorem call_repr_bl : CallR X (.builtin "repr") (fun xs H Q => ∃ b, xs = [.bl b] ∧ Q (.str (if b then "True" else "False")) H) := by
  intro pins s σ H xs us Q I r h
  obtain ⟨b, rfl, q⟩ := h
  obtain ⟨u, rfl, r1⟩ := vals1 r
  cases r1
  exact PySem.P.repr_of_bool ⟨.str _, H, I.tok _, ⟨_, rfl⟩, q⟩
def sgnV (x : Str) : List V := x.cps.toList.map fun c => V.str ⟨#[c]⟩
theorem vals_signs : ∀ (l : List Nat) (ys : List Value), ys.length = l.length → (∀ (j : Nat) (v : Value), ys[j]? = some v → ∃ c u, l[j]? = some c ∧ v = .str ⟨#[c]⟩ u) → Vals (l.map fun c => V.str ⟨#[c]⟩) ys
  | [], [], _, _ => .nil
  | [], _ :: _, h, _ => by simp at h
  | _ :: _, [], h, _ => by simp at h
  | c :: l, y :: ys, h, f => by
    obtain ⟨c', u, e1, e2⟩ := f 0 y rfl
    have e3 : c = c' := Option.some.inj e1
    subst e3
    exact .cons ⟨u, e2⟩ (vals_signs l ys (by simpa using h) fun j v e => f (j + 1) v e)
theorem call_list_text (hc : X.calm = true) : CallR X (.type "list") (fun xs H Q => ∃ x : Str, xs = [.str x] ∧ x.length ≤ sizeLine ∧ ∀ l, H l = none → Q (.ref l) (upd H l (.lst (sgnV x)))) := by
  intro pins s σ H xs us Q I r h
  obtain ⟨x, rfl, hz, q⟩ := h
  obtain ⟨u, rfl, t, rfl⟩ := vals1 r
  refine call_list_str (hn := hz) (I.ok.hd hc) x t fun h' tk acc' c' hk hS' hacc => ?_
  have hv : Vals (sgnV x) acc'.toList := vals_signs _ _ (by simp [hacc.1]) fun j v e => by
    obtain ⟨c, u, h1, h2⟩ := hacc.2 j v (by simpa using e)
    exact ⟨c, u, by simpa using h1, h2⟩
  exact ⟨.ref s.heap.objs.size, _, I.laid (t' := tk) hk (Nat.le_refl _) (show ObjOk X.prog X.w _ h' _ (.lst (sgnV x)) from ⟨by simp [sgnV]; exact hz, acc'.toList, c', hv, by simpa using hS'⟩), rfl, q _ (I.hok.fresh (Nat.le_refl _))⟩
end
/-! ### heaps: all stands but the dice -/
def Ext (d : Addr) (H H' : Hp) : Prop := ∀ a o, a ≠ d → H a = some o → H' a = some o
theorem Ext.refl {d : Addr} (H : Hp) : Ext d H H := fun _ _ _ h => h
theorem Ext.trans {d : Addr} {H H1 H2 : Hp} (a : Ext d H H1) (b : Ext d H1 H2) : Ext d H H2 := fun x o n h => b x o n (a x o n h)
theorem Ext.new {d : Addr} {H H1 : Hp} (a : Ext d H H1) {p : Addr} {o : HO} (h : H1 p = none) : Ext d H (upd H1 p o) := fun x u n e => by
  rw [upd_ne (ne_of_none (a x u n e) h)]
  exact a x u n e
theorem Ext.same {d : Addr} {H H' : Hp} (h : Same H H') : Ext d H H' := fun a o _ e => h a o e
theorem Ext.set {d : Addr} {H : Hp} {o : HO} : Ext d H (upd H d o) := fun a u n e => by
  rw [upd_ne n]
  exact e
theorem Ext.mut {d : Addr} {H H1 : Hp} (a : Ext d H H1) {p : Addr} {o : HO} (h : H p = none) : Ext d H (upd H1 p o) := fun x u n e => by
  rw [upd_ne (ne_of_none e h)]
  exact a x u n e
theorem Ext.none {d : Addr} {H H' : Hp} (e : Ext d H H') {l : Addr} (n : l ≠ d) (h : H' l = Option.none) : H l = Option.none := by
  cases q : H l with
  | none => rfl
  | some o =>
    rw [e l o n q] at h
    cases h
theorem _root_.L2.Same.new {H H1 : Hp} (a : Same H H1) {p : Addr} {o : HO} (h : H1 p = none) : Same H (upd H1 p o) := fun x u e => by
  rw [upd_ne (ne_of_none (a x u e) h)]
  exact a x u e
theorem _root_.L2.Same.mut {H H1 : Hp} (a : Same H H1) {p : Addr} {o : HO} (h : H p = none) : Same H (upd H1 p o) := fun x u e => by
  rw [upd_ne (ne_of_none e h)]
  exact a x u e
def IsDice (H : Hp) (d : Addr) : Prop := ∃ a b c : Int, H d = some (.lst [.int a, .int b, .int c])
theorem IsDice.some {H : Hp} {d : Addr} (h : IsDice H d) : ∃ o, H d = Option.some o := ⟨_, h.choose_spec.choose_spec.choose_spec⟩
theorem IsDice.ne {H : Hp} {d l : Addr} (h : IsDice H d) (n : H l = none) : l ≠ d := by
  obtain ⟨o, e⟩ := h.some
  exact fun z => by
    rw [z, e] at n
    cases n
theorem IsDice.new {H : Hp} {d p : Addr} {o : HO} (h : IsDice H d) (n : H p = none) : IsDice (upd H p o) d := by
  have hn := h.ne n
  obtain ⟨a, b, c, e⟩ := h
  exact ⟨a, b, c, by rw [upd_ne hn.symm]; exact e⟩
theorem IsDice.mut {H : Hp} {d p : Addr} {o : HO} (h : IsDice H d) (n : p ≠ d) : IsDice (upd H p o) d := by
  obtain ⟨a, b, c, e⟩ := h
  exact ⟨a, b, c, by rw [upd_ne n.symm]; exact e⟩
theorem IsDice.same {H H' : Hp} {d : Addr} (h : IsDice H d) (s : Same H H') : IsDice H' d := by
  obtain ⟨a, b, c, e⟩ := h
  exact ⟨a, b, c, s _ _ e⟩
/-- where lists stand -/
theorem sql_ext {K : PySem.W.Frag} {H H' : Hp} {d a : Addr} {xs : List V} (e : Ext d H H') (n : a ≠ d) (h : SqL K H a xs) : SqL K H' a xs := by
  rcases h with (h | ⟨o, h⟩) | h
  · exact .inl (.inl (e _ _ n h))
  · exact .inl (.inr ⟨o, e _ _ n h⟩)
  · exact .inr h
theorem lt_line {n : Nat} (h : n ≤ 1000000) : n ≤ sizeLine := Nat.le_trans h (by decide)
theorem lt_line' {n : Nat} (h : n < 1000000) : n < sizeLine := Nat.lt_of_lt_of_le h (by decide)
/-! ### the dice's promises -/
/-- a new dice; the list of the script, an index -/
def sp__law_dice (K : PySem.W.Frag) : Sp := fun vs H Q _ => ∃ (a : Addr) (ns : List Int) (i : Int), vs = [.ref a, .int i] ∧ SqL K H a (ns.map V.int) ∧ 0 ≤ i ∧ i < 64 ∧
  ∀ d o, H d = none → IsDice (upd H d o) d → Q (.ref d) (upd H d o)
def sp__law_roll (_ : PySem.W.Frag) : Sp := fun vs H Q _ => ∃ (d : Addr) (n : Int), vs = [.ref d, .int n] ∧ IsDice H d ∧ 0 < n ∧ n < 1073741824 ∧
  ∀ r H', 0 ≤ r → r < n → Ext d H H' → IsDice H' d → Q (.int r) H'
def sp__law_pick (K : PySem.W.Frag) : Sp := fun vs H Q _ => ∃ (d l : Addr) (xs : List V), vs = [.ref d, .ref l] ∧ IsDice H d ∧ SqL K H l xs ∧ l ≠ d ∧ xs ≠ [] ∧ xs.length < 1000000 ∧
  ∀ x H', x ∈ xs → Ext d H H' → IsDice H' d → Q x H'
def sp__law_some (K : PySem.W.Frag) : Sp := fun vs H Q _ => ∃ (d l : Addr) (xs : List V) (n : Int), vs = [.ref d, .ref l, .int n] ∧ IsDice H d ∧ SqL K H l xs ∧ l ≠ d ∧ xs.length < 1000000 ∧ 0 ≤ n ∧
  ∀ p ys H', (∀ y ∈ ys, y ∈ xs) → ys.length ≤ xs.length → H p = none → p ≠ d → H' p = some (.lst ys) → Ext d H H' → IsDice H' d → Q (.ref p) H'
/-! ### a comprehension over a text -/
theorem lc_txt {x : Str} {g : TG} {tt : TT} {te : TE} {vs : List Nat} {σ : L2.St} {H1 : Hp} {D : Addr} {Qd : Hp → Prop} (Pv : Nat → Hp → Prop) (h0 : Pv 0 (upd H1 D (.lst [])))
    (hs : ∀ i c H, x.cps.toList[i]? = some c → Pv i H → g (.str ⟨#[c]⟩) (wipe σ vs) H fun σ2 H2 => wipe σ2 vs = wipe σ vs ∧ tt σ2 H2 fun b H3 =>
      if b = true then te σ2 H3 fun y H4 => ∃ acc, H4 D = some (.lst acc) ∧ acc.length < sizeLine ∧ Pv (i + 1) (upd H4 D (.lst (acc ++ [y]))) else Pv (i + 1) H3) (hd : ∀ H, Pv x.cps.toList.length H → Qd H) :
    ∃ W : Nat → Nat → Hp → Prop, (∃ m, W 0 m (upd H1 D (.lst []))) ∧ ∀ i m H, W i m H →
      ((Its x).stop i H ∧ Qd H) ∨ ((Its x).go i H ∧ ∃ Nx : Hp → Prop, (∀ H', Nx H' → ∃ m', m' < m ∧ W (i + 1) m' H') ∧ ∀ v H', (Its x).yld i H v H' → g v (wipe σ vs) H' fun σ2 H2 => wipe σ2 vs = wipe σ vs ∧ tt σ2 H2 fun b H3 =>
        if b = true then te σ2 H3 fun y H4 => ∃ acc, H4 D = some (.lst acc) ∧ acc.length < sizeLine ∧ Nx (upd H4 D (.lst (acc ++ [y]))) else Nx H3) := by
  refine ⟨fun i m H => m = x.cps.size - i ∧ i ≤ x.cps.size ∧ Pv i H, ⟨x.cps.size, by simp, Nat.zero_le _, h0⟩, ?_⟩
  rintro i m H ⟨rfl, hi, p⟩
  by_cases hlt : i < x.cps.size
  · refine .inr ⟨hlt, Pv (i + 1), fun H' p' => ⟨x.cps.size - (i + 1), by omega, rfl, hlt, p'⟩, fun v H' y => ?_⟩
    obtain ⟨e, c, ec, ev⟩ := y
    subst e ev
    exact hs i c _ (by simpa using ec) p
  · have e : i = x.cps.size := by omega
    exact .inl ⟨by show x.cps.size ≤ i; omega, hd H (by rw [e] at p; simpa using p)⟩
/-- flat data -/
theorem shaped_flat {ds : List PyData} (h : ∀ d ∈ ds, d.canLay0 = true ∧ d.depth = 0) : SeqAt.shaped (.list ds) = true ∧ SeqAt.shaped (.tuple ds) = true := by
  have a : ∀ ds : List PyData, (∀ d ∈ ds, d.canLay0 = true ∧ d.depth = 0) → PyData.canLayAll0 ds = true ∧ PyData.depthAll ds = 0 := by
    intro ds
    induction ds with
    | nil => intro _; exact ⟨rfl, rfl⟩
    | cons d r ih =>
      intro h
      have h1 := h d (List.mem_cons_self ..)
      have h2 := ih fun x hx => h x (List.mem_cons_of_mem _ hx)
      exact ⟨by rw [PyData.canLayAll0, h1.1, h2.1]; rfl, by rw [PyData.depthAll, h1.2, h2.2]; rfl⟩
  obtain ⟨a1, a2⟩ := a ds h
  constructor <;> (unfold SeqAt.shaped; rw [PyData.canLay0, PyData.depth, a1, a2]; rfl)
theorem strOk_ascii {x : Str} (h : ∀ c ∈ x.cps.toList, c < 128) : PyData.strOk x = true := by
  unfold PyData.strOk
  rw [← Array.all_toList]
  exact List.all_eq_true.mpr fun c hc => by
    have := h c hc
    simp
    omega
/-! ### comprehensions whose parts speak of the place where they stand -/
section
variable {X : Cx}
abbrev Dep (α : Type) := Shared → Hp → Addr → List (Str × Addr) → List Addr → α
abbrev Dep.at {α : Type} (t : Dep α) (X : Cx) : α := t X.s_0 X.H_0 0 [] []
theorem pe_lcD {elt tg iter : Expr} {ifs : List Expr} {scope : Scope} {own : List (Str × Nat)} {pos : Pos} {wi : TI} {g : Dep TG} {tt : Dep TT} {te : Dep TE} (hc : X.calm = true) (hN : X.N.Nodup) (hi : PI X tg iter wi) (ok : BlkOk X.N X.env.scope scope own)
    (hg : ∀ (s : Shared) (H : Hp) (C : Addr) (cl : List (Str × Addr)) (fp : List Addr), PG (X.blk s H scope (compEnvC scope cl C X.env) fp) tg (g s H C cl fp)) (ht : ∀ (s : Shared) (H : Hp) (C : Addr) (cl : List (Str × Addr)) (fp : List Addr), PTs (X.blk s H scope (compEnvC scope cl C X.env) fp) ifs (tt s H C cl fp))
    (he : ∀ (s : Shared) (H : Hp) (C : Addr) (cl : List (Str × Addr)) (fp : List Addr), PE (X.blk s H scope (compEnvC scope cl C X.env) fp) elt (te s H C cl fp)) (hs : ∀ x, foldedSetIterable iter X.env x = pure x := by intro _; rfl)
    (eg : ∀ s H C cl fp, g s H C cl fp = g.at X := by intros; rfl) (et : ∀ s H C cl fp, tt s H C cl fp = tt.at X := by intros; rfl) (ee : ∀ s H C cl fp, te s H C cl fp = te.at X := by intros; rfl) :
    PE X (.ListComp elt [⟨tg, iter, ifs, 0⟩] scope pos) (tLc wi (g.at X) (tt.at X) (te.at X) (own.map (·.2))) :=
  pe_lc hc hN hi ok (fun s H C cl fp => eg s H C cl fp ▸ hg s H C cl fp) (fun s H C cl fp => et s H C cl fp ▸ ht s H C cl fp) (fun s H C cl fp => ee s H C cl fp ▸ he s H C cl fp) hs
theorem ps_setLcD {i : Nat} {y : Str} {py : Pos} {elt tg iter : Expr} {ifs : List Expr} {scope : Scope} {own : List (Str × Nat)} {pos spos : Pos} {wi : TI} {g : Dep TG} {tt : Dep TT} {te : Dep TE} (hc : X.calm = true) (hN : X.N.Nodup) (hy : X.N[i]? = some y) (hyl : X.env.scope.names.lookup y = some .local)
    (hsw : swapsWith (.ListComp elt [⟨tg, iter, ifs, 0⟩] scope pos) (some (.Name y py)) spos.line X.env = pure true) (hi : PI X tg iter wi) (ok : BlkOk X.N X.env.scope scope own)
    (hg : ∀ (s : Shared) (H : Hp) (C : Addr) (cl : List (Str × Addr)) (fp : List Addr), PG (X.blk s H scope (compEnvC scope cl C X.env) fp) tg (g s H C cl fp)) (ht : ∀ (s : Shared) (H : Hp) (C : Addr) (cl : List (Str × Addr)) (fp : List Addr), PTs (X.blk s H scope (compEnvC scope cl C X.env) fp) ifs (tt s H C cl fp))
    (he : ∀ (s : Shared) (H : Hp) (C : Addr) (cl : List (Str × Addr)) (fp : List Addr), PE (X.blk s H scope (compEnvC scope cl C X.env) fp) elt (te s H C cl fp)) (hs : ∀ x, foldedSetIterable iter X.env x = pure x := by intro _; rfl)
    (eg : ∀ s H C cl fp, g s H C cl fp = g.at X := by intros; rfl) (et : ∀ s H C cl fp, tt s H C cl fp = tt.at X := by intros; rfl) (ee : ∀ s H C cl fp, te s H C cl fp = te.at X := by intros; rfl) :
    PS X (.Assign [.Name y py] (.ListComp elt [⟨tg, iter, ifs, 0⟩] scope pos) spos) (tAsg (tLc wi (g.at X) (tt.at X) (te.at X) (own.map (·.2))) (gName i)) :=
  ps_setLc hc hN hy hyl hsw hi ok (fun s H C cl fp => eg s H C cl fp ▸ hg s H C cl fp) (fun s H C cl fp => et s H C cl fp ▸ ht s H C cl fp) (fun s H C cl fp => ee s H C cl fp ▸ he s H C cl fp) hs
end
theorem tyes {σ : L2.St} {H : Hp} {A B : Hp → Prop} (h : A H) : tYes σ H (fun b H3 => if b = true then A H3 else B H3) := by
  show (if true = true then A H else B H)
  exact iteT h
/-- the law -/
def sp_law (K : PySem.W.Frag) : Sp := fun vs H Q _ => ∃ (a : Addr) (ns : List Int), vs = [.ref a] ∧ SqL K H a (ns.map V.int) ∧ ns.length ≤ 63 ∧ ∀ H', Q (.bl true) H'
theorem same_ext {H H1 H2 : Hp} {d : Addr} (s : Same H H1) (n : H d = none) (e : Ext d H1 H2) : Same H H2 := fun a o h => e a o (ne_of_none h n) (s a o h)
/-- how many cells the law looks at -/
theorem cells_ok {n : Nat} (h : n ≤ 63) : ∀ j : Int, j = (if (if (n : Int) < 8 then (n : Int) else 8) > 1 then (if (n : Int) < 8 then (n : Int) else 8) else 1) → 1 ≤ j ∧ j ≤ 8 := by
  intro j e
  by_cases h1 : (n : Int) < 8
  · rw [if_pos h1] at e
    by_cases h2 : (n : Int) > 1
    · rw [if_pos h2] at e
      omega
    · rw [if_neg h2] at e
      omega
  · rw [if_neg h1] at e
    rw [if_pos (by decide)] at e
    omega
theorem mem_strs {m : List Str} {x : V} (h : x ∈ m.map V.str) : ∃ y ∈ m, x = .str y := by
  obtain ⟨y, h1, h2⟩ := List.mem_map.mp h
  exact ⟨y, h1, h2.symm⟩
theorem dp_signs {K : PySem.W.Frag} {H : Hp} : ∀ l : List Nat, DpAll K H (l.map fun c => V.str ⟨#[c]⟩) (l.map fun c => PyData.str ⟨#[c]⟩)
  | [] => .nil
  | _ :: l => .cons (.str _) (dp_signs l)
theorem dp_bls {K : PySem.W.Frag} {H : Hp} : ∀ l : List Bool, DpAll K H (l.map V.bl) (l.map PyData.bool)
  | [] => .nil
  | _ :: l => .cons (.bl _) (dp_bls l)
theorem take_next {α : Type} {l : List α} {i : Nat} {x : α} (h : l[i]? = some x) : l.take (i + 1) = l.take i ++ [x] := by
  rw [List.take_add_one, h]
  rfl
theorem lt_of_get {α : Type} {l : List α} {i : Nat} {x : α} (h : l[i]? = some x) : i < l.length := (List.getElem?_eq_some_iff.mp h).1
theorem lex1 (a b : Nat) : decide ([a] < [b]) = decide (a < b) := by
  by_cases h : a < b
  · rw [decide_eq_true h]
    exact decide_eq_true (List.Lex.rel h)
  · rw [decide_eq_false h]
    refine decide_eq_false fun z => ?_
    cases z with
    | rel h' => exact h h'
    | cons h' => cases h'
/-! ### the law's call -/
section
variable {P : Program} {w : World} {K : PySem.W.Frag} {mg mb : Str → Option Value} {CX : CXT} {k : Nat} {fa a : Addr} {fd : FuncData} {x : Str} {sp : Sp} {t : Shared} {items : List Value} {ns : List Int}
/-- the law's call at an abstract heap that knows nothing but, perhaps, the script -/
theorem call_from (inK : K.In t.heap) (glob : t.heap.Ns mainGlobals mg) (blt : t.heap.Ns builtinsNs mb) (bltBoot : ∀ x : Str, x ≠ "__name__" → mb x = bootBuiltins x) (noLim : t.heap.NoLimit) (noGens : t.gens = #[])
    (script : t.heap.get? a = some { cls := .type "list", data := .seq items.toArray }) (room : Room k callerA)
    (F : ∀ base : Heap, K.In base → base.Ns mainGlobals mg → FnOkG P w K mg base CX k fa fd [x] sp) (binds : ∀ (s : Shared) (u : Value), BindsTo s fd ⟨[u], []⟩ [(x, u)])
    (none' : ∀ H e s', CX [] H t (fun _ _ _ => False) e s' → False)
    (H : Hp) (only : Only H) (fine : HOk P w H t.heap) (atA : ∀ b, H b ≠ none → b = a ∧ K.lookup a = none) (wish : sp [.ref a] H (fun v _ => v = .bl true) fun _ _ _ => False) :
    codeAny (model P w) callerA (.call (.ref fa) ⟨[.ref a], []⟩) (fun r s' => r = .ok (.ret (.bool true)) ∧ OldK t.heap s'.heap ∧ s'.os = t.os ∧ AllBare s'.gens) t := by
  -- what is no list stays in sight when the script is hidden
  have free : ∀ {b : Addr} {o : Obj}, t.heap.get? b = some o → (b = a → K.lookup a ≠ none ∨ ∃ es ep, o.data = .dict es ep) → H b = none := by
    intro b o e h
    by_cases q : H b = none
    · exact q
    · obtain ⟨rfl, kn⟩ := atA b q
      rcases h rfl with h | ⟨es, ep, h⟩
      · exact absurd kn h
      · rw [script] at e
        cases e
        cases h
  have names : ∀ {b : Addr} {m : Str → Option Value}, t.heap.Ns b m → (hidT t.heap H).Ns b m := by
    rintro b m ⟨o, es, ep, e, d, r⟩
    exact ⟨o, es, ep, hidT_get e (free e fun _ => .inr ⟨es, ep, d⟩), d, r⟩
  have inB : K.In (hidT t.heap H) := fun b o e => hidT_get (inK b o e) (free (inK b o e) fun q => .inl (by
    subst q
    rw [e]
    exact fun z => nomatch z))
  have module : Mod K mg (hidT t.heap H) := by
    obtain ⟨mc, l1, l2⟩ := noLim
    exact ⟨inB, names glob, ⟨mb, names blt, bltBoot⟩, ⟨mc, names l1, l2⟩⟩
  have ground : Env0 P w K mg (hidT t.heap H) callerA [] t H := by
    refine ⟨rfl, module, fun b o e => of_hidT e, ?_, trivial, ?_, fine, .of_eq noGens⟩
    · exact Nat.le_of_eq (hidT_size t.heap H)
    · intro b hb
      cases hb
  have ran := (F _ inB (names glob)).go callerA [] t H ⟨[.ref a], []⟩ [.ref a] [.ref a] (fun v _ => v = .bl true) (fun _ _ _ => False) room rfl ground (binds t (.ref a)) (.cons rfl .nil) wish
  refine codeAny_mono ran ?_
  intro r s' h
  match r, h with
  | .error e, h => exact (none' H e s' h).elim
  | .ok .next, h => exact False.elim h
  | .ok .brk, h => exact False.elim h
  | .ok .cont, h => exact False.elim h
  | .ok (.ret u), h =>
    obtain ⟨v, H', os, bare, un, fine', rel, rfl⟩ := h
    cases (show u = Value.bool true from rel)
    refine ⟨rfl, OldK.of_keep ?_, os, bare⟩
    intro b o e
    cases q : H b with
    | none => exact un.keep b o e q (fun z => nomatch z) (fun z => nomatch z)
    | some u =>
      rcases only b with z | ⟨ob, xs, z⟩
      · exact absurd (z.symm.trans q) (fun y => nomatch y)
      · have before := (fine b _ z).1
        have behind := (fine' b _ (un.frzs b ob _ z)).1
        rw [e] at before
        cases before
        exact behind
theorem law_callG (inK : K.In t.heap) (glob : t.heap.Ns mainGlobals mg) (blt : t.heap.Ns builtinsNs mb) (bltBoot : ∀ x : Str, x ≠ "__name__" → mb x = bootBuiltins x) (noLim : t.heap.NoLimit) (noGens : t.gens = #[])
    (script : t.heap.get? a = some { cls := .type "list", data := .seq items.toArray }) (areInts : IntsAre items ns) (short : ns.length ≤ sizeLine) (room : Room k callerA)
    (F : ∀ base : Heap, K.In base → base.Ns mainGlobals mg → FnOkG P w K mg base CX k fa fd [x] sp) (binds : ∀ (s : Shared) (u : Value), BindsTo s fd ⟨[u], []⟩ [(x, u)])
    (none' : ∀ H e s', CX [] H t (fun _ _ _ => False) e s' → False) (wish : ∀ H : Hp, Only H → SqL K H a (ns.map V.int) → sp [.ref a] H (fun v _ => v = .bl true) fun _ _ _ => False) :
    codeAny (model P w) callerA (.call (.ref fa) ⟨[.ref a], []⟩) (fun r s' => r = .ok (.ret (.bool true)) ∧ OldK t.heap s'.heap ∧ s'.os = t.os ∧ AllBare s'.gens) t := by
  have vals := vals_ints areInts
  cases kn : K.lookup a with
  | some o =>
    have o' := inK a o kn
    rw [script] at o'
    cases o'
    have o1 : Only fun _ => none := fun _ => .inl rfl
    refine call_from inK glob blt bltBoot noLim noGens script room F binds none' (fun _ => none) o1 (fun _ _ z => nomatch z) (fun _ z => absurd rfl z) (wish _ o1 (.inr ⟨_, items.toArray, _, kn, rfl, rfl, rfl, ?_, by simpa using vals⟩))
    rw [List.size_toArray, areInts.length]
    exact short
  | none =>
    let H : Hp := fun b => if b = a then some (.frz { cls := .type "list", data := .seq items.toArray } (.lst (ns.map V.int))) else none
    have here : H a = some (.frz { cls := .type "list", data := .seq items.toArray } (.lst (ns.map V.int))) := if_pos rfl
    have there : ∀ b, b ≠ a → H b = none := fun b hb => if_neg hb
    have o1 : Only H := fun b => if hb : b = a then .inr ⟨_, _, hb ▸ here⟩ else .inl (there b hb)
    refine call_from inK glob blt bltBoot noLim noGens script room F binds none' H o1 (fun b u z => ?_) (fun b z => ?_) (wish _ o1 (.inl (.inr ⟨_, here⟩)))
    · by_cases hb : b = a
      · subst hb
        rw [here] at z
        cases z
        exact ⟨script, by rw [List.length_map]; exact short, items, _, vals, script⟩
      · rw [there b hb] at z
        cases z
    · by_cases hb : b = a
      · exact ⟨hb, kn⟩
      · exact absurd (there b hb) z
end
theorem walk_ofG {l : PySem.W.OpenLaw} {k : Nat} {q : Program} {loose : List Str} {XP : (Str → Option Value) → Heap → Prop} {YP : World → Heap → Prop} {d : DefRec} {K : Params → PySem.W.Frag} {sp : PySem.W.Frag → Sp} {x : Str}
    (most : l.most = some 63) (plain : d.params.defaults = []) (room : Room k callerA) (hY : ∀ (w : World) (h : Heap), YP w h → (K w.params).In h)
    (F : ∀ (w : World) (mg : Str → Option Value) (fa : Addr) (h : Heap), (K w.params).In h → h.Ns mainGlobals mg → mg d.name = some (.ref fa) →
      ∃ fd : FuncData, (∀ (s : Shared) (u : Value), BindsTo s fd ⟨[u], []⟩ [(x, u)]) ∧ ∀ base : Heap, (K w.params).In base → base.Ns mainGlobals mg → FnOkG l.prog w (K w.params) mg base CX0 k fa fd [x] (sp (K w.params)))
    (wish : ∀ (K : PySem.W.Frag) (H : Hp) (a : Addr) (ns : List Int), ns.length ≤ 63 → SqL K H a (ns.map V.int) → sp K [.ref a] H (fun v _ => v = .bl true) fun _ _ _ => False) :
    PySem.W.WalkO q loose XP YP l.row.toRowW d [] (fun f vs => PySem.call f vs) := by
  refine Att.attach_call most plain ?_
  intro w s₀ s₁ mg mb fa o pm cd doc a vs ns G Y _ _ _ named script areInts len gens
  have inK := hY w _ Y
  obtain ⟨fd, binds, ok⟩ := F w mg fa _ inK G.T.g named
  exact law_callG inK G.T.g G.T.b G.T.builtins G.T.nolimit gens script areInts (Nat.le_trans len (by decide)) room ok binds (fun _ _ _ z => z) fun H _ hS => wish _ H a ns len hS
/-! ### repr of data -/
section
variable {X : Cx}
theorem call_repr_data (hG : X.A.guards = some []) (hu : X.A.units + 64 < cLine) : CallR X (.builtin "repr") (fun xs H Q => ∃ (p : Addr) (d : PyData), xs = [.ref p] ∧ Dp X.K H (.ref p) d ∧ d.showable = true ∧ d.hasDict = false ∧ d.depth ≤ 20 ∧ d.shown.length ≤ sizeLine ∧ Q (.str d.shown) H) := by
  intro pins s σ H xs us Q I r h
  obtain ⟨p, d, rfl, hd, h1, h2, h3, h4, q⟩ := h
  obtain ⟨u, rfl, r1⟩ := vals1 r
  cases r1
  obtain ⟨as, rd⟩ := Dp.reads I d (.ref p) (.ref p) hd rfl
  exact repr_of_reads' (h₀ := s.heap) rd h1 (fun z => by rw [h2] at z; cases z) hG (by omega) (fun _ _ e => e) (fun h' u tk k => ⟨.str d.shown, H, I.kept k, ⟨u, rfl⟩, q⟩) h4
end
/-! ### cuts: what is known behind a statement -/
theorem cut_set {te : TE} {i : Nat} {u : TS} {D : Ends} {σ : L2.St} {H : Hp} (PV : V → Hp → Prop) (h : ∀ Q : VK, (∀ v H', PV v H' → Q v H') → te σ H Q) (k : ∀ v H', PV v H' → u D (σ.set i (some v)) H') : tSeq (tAsg te (gName i)) u D σ H := h _ k
theorem cut_for {wi : TI} {g : TG} {tb u : TS} {D : Ends} {σ : L2.St} {H : Hp} (PS' : L2.St → Hp → Prop) (h : ∀ N : L2.St → Hp → Prop, (∀ σ' H', PS' σ' H' → N σ' H') → tFor wi g tb { D with nx := N } σ H) (k : ∀ σ' H', PS' σ' H' → u D σ' H') : tSeq (tFor wi g tb) u D σ H := h _ k
theorem cut_it {K : PySem.W.Frag} {te : TE} {g : TG} {tb : TS} {D : Ends} {σ : L2.St} {H : Hp} (PV : V → Hp → Prop) (h : ∀ Q : VK, (∀ v H', PV v H' → Q v H') → te σ H Q) (k : ∀ v H', PV v H' → tFor (iList K (fun _ H1 Q => Q v H1)) g tb D σ H') : tFor (iList K te) g tb D σ H := h _ k

def topS (i : Nat) : Stmt := PySem.Challenge.pw_fromparts_k02_variables_and_integers_jud.main.body.getD i (.Pass ⟨0, 0, 0, 0⟩)
abbrev s_is_integer : Stmt := topS 2
theorem sc_is_integer : FnScope ["value"] ["value"] (defScope s_is_integer) := ⟨rfl, rfl, rfl, by decide +kernel, rfl, by decide +kernel, by decide +kernel⟩
abbrev s_is_variable : Stmt := topS 3
theorem sc_is_variable : FnScope ["value", "level", "digit"] ["value"] (defScope s_is_variable) := ⟨rfl, rfl, rfl, by decide +kernel, rfl, by decide +kernel, by decide +kernel⟩
abbrev s__law_dice : Stmt := topS 5
theorem sc__law_dice : FnScope ["_law_script", "_law_spot", "_law_cell", "_law_great", "_law_blend"] ["_law_script", "_law_spot"] (defScope s__law_dice) := ⟨rfl, rfl, rfl, by decide +kernel, rfl, by decide +kernel, by decide +kernel⟩
abbrev s__law_roll : Stmt := topS 6
theorem sc__law_roll : FnScope ["_law_dice_here", "_law_total", "_law_found", "_law_one", "_law_two"] ["_law_dice_here", "_law_total"] (defScope s__law_roll) := ⟨rfl, rfl, rfl, by decide +kernel, rfl, by decide +kernel, by decide +kernel⟩
abbrev s__law_pick : Stmt := topS 7
theorem sc__law_pick : FnScope ["_law_dice_here", "_law_items"] ["_law_dice_here", "_law_items"] (defScope s__law_pick) := ⟨rfl, rfl, rfl, by decide +kernel, rfl, by decide +kernel, by decide +kernel⟩
abbrev s__law_row : Stmt := topS 8
theorem sc__law_row : FnScope ["_law_dice_here", "_law_size", "_law_small", "_law_some", "_law_odd"] ["_law_dice_here"] (defScope s__law_row) := ⟨rfl, rfl, rfl, by decide +kernel, rfl, by decide +kernel, by decide +kernel⟩
abbrev s_law : Stmt := topS 9
theorem sc_law : FnScope ["_law_script", "_law_spot", "_law_dice_here", "_law_turn", "_law_value", "_law_is_number", "_law_fits", "_law_at"] ["_law_script"] (defScope s_law) := ⟨rfl, rfl, rfl, by decide +kernel, rfl, by decide +kernel, by decide +kernel⟩
structure Txt (K : PySem.W.Frag) (mg : Str → Option Value) : Prop where
  b_abs : mg "abs" = none
  b_all : mg "all" = none
  b_bool : mg "bool" = none
  b_int : mg "int" = none
  b_isinstance : mg "isinstance" = none
  b_len : mg "len" = none
  b_max : mg "max" = none
  b_min : mg "min" = none
  b_range : mg "range" = none
  b_repr : mg "repr" = none
  b_str : mg "str" = none
  g_VARIABLE : ∃ u, mg "VARIABLE" = some u ∧ RelV (.str "x") u
theorem intBits_le (x : Int) {n : Nat} (h : x.natAbs < 2 ^ n) (h0 : 0 < n) : Builtin.Int.intBits x ≤ n := by
  have e := PySem.Flt.log2_lt_of h0 h
  unfold Builtin.Int.intBits
  split <;> omega
section
variable {P : Program} {w : World} {K : PySem.W.Frag} {mg : Str → Option Value} {base : Heap}
theorem ok__law_roll (T : Txt K mg) {f : Addr} {fd : FuncData} (F : Fun K "_law_roll" "_law_roll" s__law_roll f fd) : FnOkG P w K mg base CX0 1 f fd ["_law_dice_here", "_law_total"] (sp__law_roll K) := by
  have nd := sc__law_roll.nd
  refine F.okG sc__law_roll (fun vs H Q E h => ?_) (fun cdv A outer s H vs Q E hr hG h => ?_)
  · obtain ⟨d, n, rfl, _⟩ := h
    rfl
  · obtain ⟨d, n, rfl, ⟨a, b, c, hd⟩, h0, h1, q⟩ := h
    refine ⟨_, (pss_cons (ps_if (pt_cmpR op_gt (pe_ix ix_list (pv 0) pe_int (fun _ _ => rfl)) pe_int (nomark _)) (pss_cons (ps_set (i := 2) nd rfl (.inl rfl) (pe_op op_mod (pe_callTy call_int1 (by rfl) T.b_int (by decide +kernel) (pa_cons (pe_ix ix_list (pv 0) pe_int (fun _ _ => rfl)) pa_nil)) (pv 1)))
      (pss_cons (ps_asg (pe_op op_fdiv (pe_ix ix_list (pv 0) pe_int (fun _ _ => rfl)) (pv 1)) (pg_sub (pv 0) pe_int set_list))
      (pss_one (ps_ret (pv 2))))) pss_nil)
      (pss_cons (ps_asg (pe_op op_add (pe_ix ix_list (pv 0) pe_int (fun _ _ => rfl)) pe_int) (pg_sub (pv 0) pe_int set_list))
      (pss_cons (ps_set (i := 3) nd rfl (.inl rfl) (pe_op op_mod (pe_callTy call_int1 (by rfl) T.b_int (by decide +kernel) (pa_cons (pe_op op_add (pe_ix ix_list (pv 0) pe_int (fun _ _ => rfl)) (pe_op op_mul pe_int (pe_ix ix_list (pv 0) pe_int (fun _ _ => rfl)))) pa_nil)) pe_int))
      (pss_cons (ps_set (i := 4) nd rfl (.inl rfl) (pe_op op_add (pe_op op_mul (pe_op op_mod (pe_callTy call_int1 (by rfl) T.b_int (by decide +kernel) (pa_cons (pe_op op_mul (pv 3) (pv 3)) pa_nil)) pe_int) (pv 3)) (pe_op op_mul pe_int (pe_ix ix_list (pv 0) pe_int (fun _ _ => rfl)))))
      (pss_cons (ps_set (i := 4) nd rfl (.inl rfl) (pe_op op_mod (pe_callTy call_int1 (by rfl) T.b_int (by decide +kernel) (pa_cons (pv 4) pa_nil)) pe_int))
      (pss_one (ps_ret (pe_op op_mod (pe_callTy call_int1 (by rfl) T.b_int (by decide +kernel) (pa_cons (pe_op op_fdiv (pv 4) pe_int) pa_nil)) (pv 1))))))))), ?_⟩
    have g0 : SqL K H d [.int a, .int b, .int c] := SqL.of hd
    refine ⟨.ref d, rfl, d, _, 0, _, rfl, rfl, g0, rfl, a, 0, rfl, rfl, _, rfl, ?_⟩
    refine ite2 (fun _ => ?_) (fun _ => ?_)
    · refine ⟨.ref d, rfl, d, _, 0, _, rfl, rfl, g0, rfl, .inl ⟨a, rfl, .int n, rfl, a, n, rfl, rfl, h0, ?_⟩⟩
      refine ⟨.ref d, rfl, d, _, 0, _, rfl, rfl, g0, rfl, .int n, rfl, a, n, rfl, rfl, ⟨h0, h1⟩, ?_⟩
      refine ⟨.ref d, rfl, d, _, 0, 0, rfl, rfl, hd, rfl, ?_⟩
      refine ⟨.int (a % n), rfl, ?_⟩
      exact q _ _ (Int.emod_nonneg _ (by omega)) (Int.emod_lt_of_pos _ h0) Ext.set ⟨_, _, _, upd_same⟩
    · refine ⟨.ref d, rfl, d, _, 2, _, rfl, rfl, g0, rfl, c, 1, rfl, rfl, ?_⟩
      refine ⟨.ref d, rfl, d, _, 2, 2, rfl, rfl, hd, rfl, ?_⟩
      have g2 : SqL K (upd H d (.lst [.int a, .int b, .int (c + 1)])) d [.int a, .int b, .int (c + 1)] := SqL.of upd_same
      refine ⟨.ref d, rfl, d, _, 1, _, rfl, rfl, g2, rfl, .ref d, rfl, d, _, 2, _, rfl, rfl, g2, rfl, 998244293, c + 1, rfl, rfl, .inl ⟨by decide, by decide⟩, b, _, rfl, rfl, ?_⟩
      refine .inl ⟨_, rfl, _, _, rfl, rfl, (show (0 : Int) < 2305843009213693951 by decide), ?_⟩
      have x0 : 0 ≤ (b + 998244293 * (c + 1)) % 2305843009213693951 := Int.emod_nonneg _ (by decide)
      have x1 : (b + 998244293 * (c + 1)) % 2305843009213693951 < 2305843009213693951 := Int.emod_lt_of_pos _ (by decide)
      have xm : -(2 ^ 64 : Int) < (b + 998244293 * (c + 1)) % 2305843009213693951 ∧ (b + 998244293 * (c + 1)) % 2305843009213693951 < 2 ^ 64 := ⟨by omega, by omega⟩
      refine ⟨_, rfl, _, rfl, _, _, rfl, rfl, .inl xm, .inl ⟨_, rfl, _, _, rfl, rfl, (show (0 : Int) < 2305843009213693921 by decide), ?_⟩⟩
      refine ⟨_, rfl, _, _, rfl, rfl, .inr xm, ?_⟩
      refine ⟨.ref d, rfl, d, _, 2, _, rfl, rfl, g2, rfl, 9413, c + 1, rfl, rfl, .inl ⟨by decide, by decide⟩, _, _, rfl, rfl, ?_⟩
      refine ⟨_, rfl, .inl ⟨_, rfl, _, _, rfl, rfl, (show (0 : Int) < 2305843009213693669 by decide), ?_⟩⟩
      refine ⟨_, rfl, _, _, rfl, rfl, ⟨(show (0 : Int) < 8192 by decide), (show (8192 : Int) < 1073741824 by decide)⟩, .inl ⟨_, rfl, .int n, rfl, _, n, rfl, rfl, h0, ?_⟩⟩
      exact q _ _ (Int.emod_nonneg _ (by omega)) (Int.emod_lt_of_pos _ h0) Ext.set ⟨_, _, _, upd_same⟩
theorem ok__law_pick (T : Txt K mg) (c__law_roll : Cal P w K mg base "_law_roll" 1 ["_law_dice_here", "_law_total"] (sp__law_roll K)) {f : Addr} {fd : FuncData} (F : Fun K "_law_pick" "_law_pick" s__law_pick f fd) : FnOkG P w K mg base CX0 2 f fd ["_law_dice_here", "_law_items"] (sp__law_pick K) := by
  have nd := sc__law_pick.nd
  refine F.okG sc__law_pick (fun vs H Q E h => ?_) (fun cdv A outer s H vs Q E hr hG h => ?_)
  · obtain ⟨d, l, xs, rfl, _⟩ := h
    rfl
  · obtain ⟨d, l, xs, rfl, hd, hl, ne, xne, hz, q⟩ := h
    refine ⟨_, (pss_one (ps_ret (pe_ix ix_list (pv 1) (pe_callC c__law_roll (hr.mono (by decide)) hG rfl (pa_cons (pv 0) (pa_cons (pe_callB call_len (by rfl) T.b_len (by decide +kernel) (pa_cons (pv 1) pa_nil)) pa_nil))) (fun _ _ => rfl)))), ?_⟩
    have h1 : 0 < xs.length := List.length_pos_iff.mpr xne
    refine ⟨.ref l, rfl, .ref d, rfl, .ref l, rfl, .ref l, xs.length, rfl, .inl ⟨xs, hl, rfl⟩, ?_⟩
    refine ⟨d, (xs.length : Int), rfl, hd, by omega, by omega, fun r H' r0 r1 e dd => ?_⟩
    have hr' : r.toNat < xs.length := by omega
    have er : r = (r.toNat : Int) := by omega
    refine ⟨l, xs, r, xs[r.toNat], rfl, rfl, sql_ext e ne hl, ?_, ?_⟩
    · have g := atI_nat (List.getElem?_eq_getElem hr')
      rw [← er] at g
      exact g
    · exact q _ _ (List.getElem_mem hr') e dd
end

section
variable {P : Program} {w : World} {K : PySem.W.Frag} {mg : Str → Option Value} {base : Heap}
theorem ok__law_dice (T : Txt K mg) {f : Addr} {fd : FuncData} (F : Fun K "_law_dice" "_law_dice" s__law_dice f fd) : FnOkG P w K mg base CX0 1 f fd ["_law_script", "_law_spot"] (sp__law_dice K) := by
  have nd := sc__law_dice.nd
  refine F.okG sc__law_dice (fun vs H Q E h => ?_) (fun cdv A outer s H vs Q E hr hG h => ?_)
  · obtain ⟨a, ns, i, rfl, _⟩ := h
    rfl
  · obtain ⟨a, ns, i', rfl, hS, hi0, hi, q⟩ := h
    obtain ⟨i, rfl⟩ := Int.eq_ofNat_of_zero_le hi0
    refine ⟨_, (pss_cons (ps_set (i := 2) nd rfl (.inl rfl) (pe_op op_add (pe_op op_mul pe_int (pv 1)) pe_int))
      (pss_cons (ps_if (pt_cmpR op_lt (pv 1) (pe_callB call_len (by rfl) T.b_len (by decide +kernel) (pa_cons (pv 0) pa_nil)) (nomark _)) (pss_one (ps_set (i := 2) nd rfl (.inl rfl) (pe_ix ix_list (pv 0) (pv 1) (fun _ _ => rfl)))) pss_nil)
      (pss_cons (ps_set (i := 3) nd rfl (.inl rfl) (pe_op op_mod (pe_callTy call_int1 (by rfl) T.b_int (by decide +kernel) (pa_cons (pe_callB call_abs (by rfl) T.b_abs (by decide +kernel) (pa_cons (pv 2) pa_nil)) pa_nil)) (pe_op op_powW (pe_op op_powW pe_int pe_int) pe_int)))
      (pss_cons (ps_set (i := 4) nd rfl (.inl rfl) (pe_op op_add (pe_op op_add (pe_op op_add (pe_op op_mul (pe_op op_mod (pe_callTy call_int1 (by rfl) T.b_int (by decide +kernel) (pa_cons (pv 3) pa_nil)) pe_int) pe_int) (pe_op op_mul pe_int (pv 1))) (pe_op op_mul pe_int (pe_callTy call_int1 (by rfl) T.b_int (by decide +kernel) (pa_cons (pe_cmpR op_lt (pv 2) pe_int (nomark _)) pa_nil)))) pe_int))
      (pss_one (ps_ret (pe_lst (pa_cons (pe_callB (call_max2 rfl) (by rfl) T.b_max (by decide +kernel) (pa_cons pe_int (pa_cons (pe_op op_sub (pv 3) (pe_op op_powW pe_int pe_int)) pa_nil))) (pa_cons (pe_op op_mod (pe_callTy call_int1 (by rfl) T.b_int (by decide +kernel) (pa_cons (pv 4) pa_nil)) pe_int) (pa_cons pe_int pa_nil)))))))))), ?_⟩
    refine ⟨.int i, rfl, _, _, rfl, rfl, .inl ⟨by decide, by decide⟩, _, _, rfl, rfl, ?_⟩
    refine ⟨.int i, rfl, .ref a, rfl, .ref a, _, rfl, .inl ⟨_, hS, rfl⟩, _, _, rfl, rfl, _, rfl, ?_⟩
    have p1 : (0 : Int) < (10 ^ 60) ^ 10 := by decide +kernel
    have p2 : (0 : Int) < 2305843009213693669 := by decide
    refine ite2 (fun hlt => ?_) (fun _ => ?_)
    · have hlt' : i < ns.length := by
        have := of_decide_eq_true hlt
        rw [List.length_map] at this
        omega
      refine ⟨.ref a, rfl, .int i, rfl, a, _, _, .int ns[i], rfl, rfl, hS, atI_nat (by rw [List.getElem?_map, List.getElem?_eq_getElem hlt']; rfl), ?_⟩
      refine ⟨_, rfl, _, rfl, .inl ⟨_, rfl, 10, 60, rfl, rfl, ⟨by decide, by decide +kernel⟩, _, 10, rfl, rfl, ⟨by decide, by decide +kernel⟩, _, _, rfl, rfl, p1, ?_⟩⟩
      refine ⟨_, rfl, .inl ⟨_, rfl, _, _, rfl, rfl, p2, _, _, rfl, rfl, .inr ⟨by decide, by decide⟩, .int i, rfl, _, _, rfl, rfl, .inl ⟨by decide, by decide⟩, _, _, rfl, rfl, ?_⟩⟩
      refine ⟨_, rfl, _, _, rfl, rfl, .inr ⟨_, rfl, _, _, rfl, rfl, .inl ⟨by decide, by decide⟩, _, _, rfl, rfl, _, _, rfl, rfl, ?_⟩⟩
      refine ⟨_, rfl, 10, 18, rfl, rfl, ⟨by decide, by decide +kernel⟩, _, _, rfl, rfl, _, _, rfl, _, rfl, .inl ⟨_, rfl, _, _, rfl, rfl, p2, by show 3 ≤ sizeLine; decide, fun p hp => q p _ hp ⟨_, _, _, upd_same⟩⟩⟩
    · refine ⟨_, rfl, _, rfl, .inl ⟨_, rfl, 10, 60, rfl, rfl, ⟨by decide, by decide +kernel⟩, _, 10, rfl, rfl, ⟨by decide, by decide +kernel⟩, _, _, rfl, rfl, p1, ?_⟩⟩
      refine ⟨_, rfl, .inl ⟨_, rfl, _, _, rfl, rfl, p2, _, _, rfl, rfl, .inr ⟨by decide, by decide⟩, .int i, rfl, _, _, rfl, rfl, .inl ⟨by decide, by decide⟩, _, _, rfl, rfl, ?_⟩⟩
      refine ⟨_, rfl, _, _, rfl, rfl, .inr ⟨_, rfl, _, _, rfl, rfl, .inl ⟨by decide, by decide⟩, _, _, rfl, rfl, _, _, rfl, rfl, ?_⟩⟩
      refine ⟨_, rfl, 10, 18, rfl, rfl, ⟨by decide, by decide +kernel⟩, _, _, rfl, rfl, _, _, rfl, _, rfl, .inl ⟨_, rfl, _, _, rfl, rfl, p2, by show 3 ≤ sizeLine; decide, fun p hp => q p _ hp ⟨_, _, _, upd_same⟩⟩⟩
end

/-! ### which are integers, which are texts of variables -/
def isI : V → Bool
  | .int i => decide ((if i < 0 then -i else i) < 10 ^ 60)
  | _ => false
def dig (c : Nat) : Bool := decide (48 ≤ c) && decide (c ≤ 57)
def isL : List Nat → Bool
  | [120, a] => dig a
  | [120, a, b] => (dig a && dig b) && !decide (a = 48)
  | _ => false
def isV : V → Bool
  | .str x => isL x.cps.toList
  | _ => false
def ValK (K : PySem.W.Frag) (H : Hp) (v : V) : Prop := (∃ i, v = .int i) ∨ (∃ b, v = .bl b) ∨ (∃ x : Str, v = .str x ∧ x.length ≤ 1000) ∨
  (∃ t, TyX K H v t ∧ PySem.W.kitOne K t (.type "int") = some false ∧ PySem.W.kitOne K t (.type "str") = some false ∧ isI v = false ∧ isV v = false)
def sp_is_integer (K : PySem.W.Frag) : Sp := fun vs H Q _ => ∃ v, vs = [v] ∧ ValK K H v ∧ ∀ H', Same H H' → Q (.bl (isI v)) H'
def sp_is_variable (K : PySem.W.Frag) : Sp := fun vs H Q _ => ∃ v, vs = [v] ∧ ValK K H v ∧ ∀ H', Same H H' → Q (.bl (isV v)) H'
theorem two_digits : ∀ a b : Fin 10, PySem.intText? ⟨#[48 + a.val, 48 + b.val]⟩ = some ((10 * a.val + b.val : Nat) : Int) ∧
    (decide ((V.str (toString ((10 * a.val + b.val : Nat) : Int))) = V.str ⟨#[48 + a.val, 48 + b.val]⟩) = !decide (48 + a.val = 48)) := by decide +kernel
theorem one_digit : ∀ a : Fin 10, PySem.intText? ⟨#[48 + a.val]⟩ = some ((a.val : Nat) : Int) ∧
    (decide ((V.str (toString ((a.val : Nat) : Int))) = V.str ⟨#[48 + a.val]⟩) = true) := by decide +kernel
theorem dig_fin {c : Nat} (h : dig c = true) : ∃ a : Fin 10, c = 48 + a.val := by
  obtain ⟨h1, h2⟩ := Bool.and_eq_true_iff.mp h
  have h1 := of_decide_eq_true h1
  have h2 := of_decide_eq_true h2
  exact ⟨⟨c - 48, by omega⟩, by show c = 48 + (c - 48); omega⟩
/-- what is read of one or two digits -/
theorem digits_read {r : List Nat} (h : r.all dig = true) (hl : r.length = 1 ∨ r.length = 2) :
    ∃ n : Nat, n < 100 ∧ PySem.intText? ⟨r.toArray⟩ = some (n : Int) ∧ decide ((V.str (toString (n : Int))) = V.str ⟨r.toArray⟩) = isL (120 :: r) := by
  match r, h, hl with
  | [a], h, _ =>
    have ha : dig a = true := by simpa using h
    obtain ⟨a', rfl⟩ := dig_fin ha
    obtain ⟨e1, e2⟩ := one_digit a'
    exact ⟨a'.val, by omega, e1, e2.trans ha.symm⟩
  | [a, b], h, _ =>
    obtain ⟨ha, hb⟩ : dig a = true ∧ dig b = true := by simpa using h
    obtain ⟨a', rfl⟩ := dig_fin ha
    obtain ⟨b', rfl⟩ := dig_fin hb
    obtain ⟨e1, e2⟩ := two_digits a' b'
    refine ⟨10 * a'.val + b'.val, by omega, e1, e2.trans ?_⟩
    show _ = ((dig (48 + a'.val) && dig (48 + b'.val)) && !decide (48 + a'.val = 48))
    rw [ha, hb]
    rfl
theorem isL_cases {l : List Nat} (h : isL l = true) : ∃ r, l = 120 :: r ∧ (r.length = 1 ∨ r.length = 2) ∧ r.all dig = true := by
  unfold isL at h
  split at h
  · exact ⟨_, rfl, .inl rfl, by simpa using h⟩
  · obtain ⟨h1, _⟩ := Bool.and_eq_true_iff.mp h
    exact ⟨_, rfl, .inr rfl, by simpa using h1⟩
  · cases h
theorem cut_one (z : Str) : cutS z (some 1) none = ⟨(z.cps.toList.drop 1).toArray⟩ := by
  have hl : z.length = z.cps.toList.length := len_tl z
  unfold cutS
  rw [show HT.sIx z.length 0 (some 1) = min 1 z.length from HT.sIx_nat z.length 0 1, HT.sIx_none, hl]
  cases z.cps.toList with
  | nil => rfl
  | cons c r =>
    rw [show min 1 (c :: r).length = 1 by rw [List.length_cons]; omega]
    show (⟨(List.take ((c :: r).length - 1) r).toArray⟩ : Str) = _
    rw [List.length_cons, Nat.add_sub_cancel, List.take_length]
    rfl
theorem log_small {n : Nat} (h : n < 100) : ((n : Int)).natAbs.log2 < 1920 := by
  have := PySem.Flt.log2_lt_of (k := 7) (by decide) (show ((n : Int)).natAbs < 2 ^ 7 by omega)
  omega
section
variable {P : Program} {w : World} {K : PySem.W.Frag} {mg : Str → Option Value} {base : Heap}
theorem ok_is_integer (T : Txt K mg) {f : Addr} {fd : FuncData} (F : Fun K "is_integer" "is_integer" s_is_integer f fd) : FnOkG P w K mg base CX0 1 f fd ["value"] (sp_is_integer K) := by
  have nd := sc_is_integer.nd
  refine F.okG sc_is_integer (fun vs H Q E h => ?_) (fun cdv A outer s H vs Q E hr hG h => ?_)
  · obtain ⟨v, rfl, _⟩ := h
    rfl
  · obtain ⟨v, rfl, hv, q⟩ := h
    refine ⟨_, (pss_one (ps_ret (pe_and (pe_callB call_isi (by rfl) T.b_isinstance (by decide +kernel) (pa_cons (pv 0) (pa_cons (pe_bltn (v := .ty "int") (u := .type "int") (by rfl) T.b_int (by decide +kernel) rfl) pa_nil))) (pe_and (pe_not (pe_callB call_isi (by rfl) T.b_isinstance (by decide +kernel) (pa_cons (pv 0) (pa_cons (pe_bltn (v := .ty "bool") (u := .type "bool") (by rfl) T.b_bool (by decide +kernel) rfl) pa_nil)))) (pe_one (pe_cmpR op_lt (pe_callB call_abs (by rfl) T.b_abs (by decide +kernel) (pa_cons (pv 0) pa_nil)) (pe_op op_powW pe_int pe_int) (nomark _))))))), ?_⟩
    have z := q H (Same.refl H)
    rcases hv with ⟨i, rfl⟩ | ⟨b, rfl⟩ | ⟨x, rfl, hx⟩ | ⟨t, ht, hk, hk2, hw, _⟩
    · refine ⟨.int i, rfl, .int i, .ty "int", .type "int", .type "int", true, rfl, .ty _, .base (.int i), kit_ty (by decide +kernel), true, rfl, iteT ?_⟩
      refine ⟨.int i, rfl, .int i, .ty "bool", .type "int", .type "bool", false, rfl, .ty _, .base (.int i), kit_ty (by decide +kernel), false, rfl, true, rfl, iteT ?_⟩
      exact ⟨.int i, rfl, i, rfl, 10, 60, rfl, rfl, ⟨by decide, by decide +kernel⟩, _, _, rfl, rfl, z⟩
    · refine ⟨.bl b, rfl, .bl b, .ty "int", .type "bool", .type "int", true, rfl, .ty _, .base (.bl b), kit_ty (by decide +kernel), true, rfl, iteT ?_⟩
      exact ⟨.bl b, rfl, .bl b, .ty "bool", .type "bool", .type "bool", true, rfl, .ty _, .base (.bl b), kit_ty (by decide +kernel), true, rfl, false, rfl, iteF z⟩
    · exact ⟨.str x, rfl, .str x, .ty "int", .type "str", .type "int", false, rfl, .ty _, .base (.str x), kit_ty (by decide +kernel), false, rfl, iteF z⟩
    · rw [hw] at z
      exact ⟨v, rfl, v, .ty "int", t, .type "int", false, rfl, .ty _, ht, hk, false, rfl, iteF z⟩
theorem ok_is_variable (T : Txt K mg) {f : Addr} {fd : FuncData} (F : Fun K "is_variable" "is_variable" s_is_variable f fd) : FnOkG P w K mg base CX0 1 f fd ["value"] (sp_is_variable K) := by
  have nd := sc_is_variable.nd
  refine F.okG sc_is_variable (fun vs H Q E h => ?_) (fun cdv A outer s H vs Q E hr hG h => ?_)
  · obtain ⟨v, rfl, _⟩ := h
    rfl
  · obtain ⟨v, rfl, hv, q⟩ := h
    refine ⟨_, (pss_cons (ps_if (PW.pt (pw_or (pt_not (pt_val (pe_callB call_isi (by rfl) T.b_isinstance (by decide +kernel) (pa_cons (pv 0) (pa_cons (pe_bltn (v := .ty "str") (u := .type "str") (by rfl) T.b_str (by decide +kernel) rfl) pa_nil))))) (pw_or (pt_not (pt_chain op_le op_le pe_int (pe_callB call_len (by rfl) T.b_len (by decide +kernel) (pa_cons (pv 0) pa_nil)) pe_int)) (pw_or1 (pt_cmpR op_ne (pe_ix ix_str (pv 0) pe_int (fun _ _ => rfl)) (pe_globE rfl T.g_VARIABLE) (nomark _)))))) (pss_one (ps_ret pe_bl)) pss_nil)
      (pss_cons (ps_set (i := 1) nd rfl (.inl rfl) (pe_slice sl_str (pv 0) (po_some pe_int) po_none))
      (pss_one (ps_ret (pe_and (pe_callB (cr_all rfl) (by rfl) T.b_all (by decide +kernel) (pa_cons (pe_lcD (own := [("digit", 2)]) (by rfl) nd (pi_str (pv 1)) (blkOk_by (own := [("digit", 2)]) (N := ["value", "level", "digit"]) (sc := (defScope s_is_variable)) (by decide +kernel)) (fun _ _ _ _ _ => pg_name (i := 2) nd rfl (Or.inl rfl)) (fun _ _ _ _ _ => pts_nil) (fun _ _ _ _ _ => (pe_chain op_le_str op_le_str pe_str (pv 2) pe_str))) pa_nil)) (pe_one (pe_cmpR op_eq (pe_callTy call_str_int (by rfl) T.b_str (by decide +kernel) (pa_cons (pe_callTy call_int_str (by rfl) T.b_int (by decide +kernel) (pa_cons (pv 1) pa_nil)) pa_nil)) (pv 1) (nomark _)))))))), ?_⟩
    rcases hv with ⟨i, rfl⟩ | ⟨b, rfl⟩ | ⟨x, rfl, hx⟩ | ⟨t, ht, hk, hk2, _, hw⟩
    · exact ⟨.int i, rfl, .int i, .ty "str", .type "int", .type "str", false, rfl, .ty _, .base (.int i), kit_ty (by decide +kernel), false, rfl, iteT (iteT (q H (Same.refl H)))⟩
    · exact ⟨.bl b, rfl, .bl b, .ty "str", .type "bool", .type "str", false, rfl, .ty _, .base (.bl b), kit_ty (by decide +kernel), false, rfl, iteT (iteT (q H (Same.refl H)))⟩
    · have hxl : x.cps.toList.length = x.length := (len_tl x).symm
      have hx1 : x.length ≤ sizeLine := lt_line (by omega)
      have no : isL x.cps.toList = false → Q (.bl false) H := fun e => by
        have z := q H (Same.refl H)
        rw [show isV (.str x) = false from e] at z
        exact z
      have small : ¬ (2 ≤ x.length ∧ x.length ≤ 3) → isL x.cps.toList = false := fun h => by
        cases e : isL x.cps.toList with
        | false => rfl
        | true =>
          obtain ⟨r, e1, e2, _⟩ := isL_cases e
          rw [e1, List.length_cons] at hxl
          exact absurd ⟨by omega, by omega⟩ h
      refine ⟨.str x, rfl, .str x, .ty "str", .type "str", .type "str", true, rfl, .ty _, .base (.str x), kit_ty (by decide +kernel), true, rfl, ?_⟩
      refine iteF ?_
      refine ⟨.str x, rfl, .str x, x.length, rfl, ⟨hx1, rfl⟩, 2, (x.length : Int), rfl, rfl, _, rfl, ?_⟩
      refine ite2 (fun h1 => ?_) (fun h1 => ?_)
      · have h1' : 2 ≤ x.length := by have := of_decide_eq_true h1; omega
        refine ⟨(x.length : Int), 3, rfl, rfl, _, rfl, ?_⟩
        refine ite2 (fun h2 => ?_) (fun h2 => ?_)
        · have h2' : ¬ x.length ≤ 3 := fun z => by
            rw [decide_eq_true (show (x.length : Int) ≤ 3 by omega)] at h2
            cases h2
          exact iteT (no (small fun z => h2' z.2))
        · have h2' : x.length ≤ 3 := by
            by_cases z : (x.length : Int) ≤ 3
            · omega
            · rw [decide_eq_false z] at h2
              exact absurd rfl h2
          obtain ⟨c, r, el⟩ : ∃ c r, x.cps.toList = c :: r := by
            cases e : x.cps.toList with
            | nil =>
              rw [e] at hxl
              simp at hxl
              omega
            | cons c r => exact ⟨c, r, rfl⟩
          have rl : r.length = 1 ∨ r.length = 2 := by
            rw [el, List.length_cons] at hxl
            omega
          refine ⟨.str x, rfl, x, 0, c, rfl, rfl, hx1, by rw [el]; exact atI_nat (j := 0) rfl, rfl, _, rfl, ?_⟩
          refine ite2 (fun h3 => ?_) (fun h3 => ?_)
          · refine no ?_
            cases e : isL x.cps.toList with
            | false => rfl
            | true =>
              obtain ⟨r', e1, _⟩ := isL_cases e
              rw [el] at e1
              obtain ⟨rfl, _⟩ := List.cons.inj e1
              exact absurd h3 (by decide)
          · have ec : c = 120 := by
              by_cases z : c = 120
              · exact z
              · refine absurd ?_ h3
                refine (congrArg (fun b => !b) (decide_eq_false fun y => z ?_)).trans rfl
                have y2 : (⟨#[c]⟩ : Str) = ⟨#[120]⟩ := V.str.inj y
                have y3 := congrArg (fun s : Str => s.cps.toList) y2
                exact List.head_eq_of_cons_eq y3
            subst ec
            refine ⟨.str x, rfl, 1, rfl, x, rfl, hx1, ?_⟩
            rw [cut_one, el]
            have rle : r.length ≤ 2 := by omega
            refine ⟨.str ⟨r.toArray⟩, rfl, ⟨r.toArray⟩, rfl, fun D hD => lc_txt (x := ⟨r.toArray⟩) (fun i H' => H' D = some (.lst (((r.take i).map dig).map V.bl)) ∧ Same H H') ?_ (fun i c H1 hc hP => ?_) (fun H1 hP => ?_)⟩
            · exact ⟨upd_same, (Same.refl H).mut hD⟩
            · obtain ⟨hD1, s1⟩ := hP
              have hc : r[i]? = some c := hc
              refine ⟨rfl, tyes ?_⟩
              have fin : ∀ b, b = dig c → ∃ acc, H1 D = some (.lst acc) ∧ acc.length < sizeLine ∧ ((upd H1 D (.lst (acc ++ [.bl b]))) D = some (.lst (((r.take (i + 1)).map dig).map V.bl)) ∧ Same H (upd H1 D (.lst (acc ++ [.bl b])))) := by
                intro b e
                refine ⟨_, hD1, lt_line' ?_, ?_, s1.mut hD⟩
                · rw [List.length_map, List.length_map, List.length_take]
                  omega
                · rw [upd_same, e, take_next hc, List.map_append, List.map_append]
                  rfl
              refine ⟨.str ⟨#[c]⟩, rfl, "0", ⟨#[c]⟩, rfl, rfl, _, rfl, ?_⟩
              have ea : (decide ((⟨#[c]⟩ : Str).cps.toList < ("0" : Str).cps.toList)) = decide (c < 48) := lex1 c 48
              have ez : (decide (("9" : Str).cps.toList < (⟨#[c]⟩ : Str).cps.toList)) = decide (57 < c) := lex1 57 c
              refine ite2 (fun h3 => ?_) (fun h3 => ?_)
              · refine ⟨⟨#[c]⟩, "9", rfl, rfl, fin _ ?_⟩
                rw [ea] at h3
                rw [ez]
                unfold dig
                by_cases z : c < 48
                · rw [decide_eq_true z] at h3
                  cases h3
                · rw [decide_eq_true (show 48 ≤ c by omega), Bool.true_and]
                  by_cases z2 : 57 < c
                  · rw [decide_eq_true z2, decide_eq_false (by omega)]
                    rfl
                  · rw [decide_eq_false z2, decide_eq_true (by omega)]
                    rfl
              · refine fin _ ?_
                rw [ea] at h3
                unfold dig
                by_cases z : c < 48
                · rw [decide_eq_false (show ¬ 48 ≤ c by omega), Bool.false_and]
                · rw [decide_eq_false z] at h3
                  exact absurd rfl h3
            · obtain ⟨hD1, s1⟩ := hP
              have hD1 : H1 D = some (.lst ((r.map dig).map V.bl)) := by
                have hh : H1 D = some (.lst (((r.take r.length).map dig).map V.bl)) := hD1
                rw [List.take_length] at hh
                exact hh
              have ev : isV (.str x) = isL (120 :: r) := congrArg isL el
              refine ⟨D, _, rfl, SqL.of hD1, (r.map dig).all id, rfl, ?_⟩
              refine ite2 (fun h4 => ?_) (fun h4 => ?_)
              · have h4' : r.all dig = true := by
                  rw [List.all_map] at h4
                  exact h4
                obtain ⟨n, n1, n2, n3⟩ := digits_read h4' rl
                refine ⟨.str ⟨r.toArray⟩, rfl, ⟨r.toArray⟩, n, rfl, n2, by show r.length ≤ 640; omega, n, rfl, log_small n1, .str ⟨r.toArray⟩, rfl, rfl, ?_⟩
                have z := q H1 s1
                rw [ev, ← n3] at z
                exact z
              · have z := q H1 s1
                have e : isL (120 :: r) = false := by
                  cases e : isL (120 :: r) with
                  | false => rfl
                  | true =>
                    obtain ⟨r', e1, _, e3⟩ := isL_cases e
                    obtain ⟨_, rfl⟩ := List.cons.inj e1
                    rw [List.all_map] at h4
                    exact absurd e3 h4
                rw [ev, e] at z
                exact z
      · have h1' : ¬ 2 ≤ x.length := fun z => h1 (decide_eq_true (by omega))
        exact ⟨false, rfl, iteT (iteT (no (small fun z => h1' z.1)))⟩
    · have z := q H (Same.refl H)
      rw [hw] at z
      exact ⟨v, rfl, v, .ty "str", t, .type "str", false, rfl, .ty _, ht, hk2, false, rfl, iteT (iteT z)⟩
end

/-! ### the rows that the law draws from -/
def AnyK (K : PySem.W.Frag) (d : Addr) (H : Hp) (v : V) : Prop := ∀ H', Ext d H H' → ValK K H' v
theorem AnyK.ext {K : PySem.W.Frag} {d : Addr} {H H1 : Hp} {v : V} (h : AnyK K d H v) (e : Ext d H H1) : AnyK K d H1 v := fun H' e' => h H' (e.trans e')
/-- a row whose value is one at every heap -/
def Good (K : PySem.W.Frag) (d : Addr) (H : Hp) (y : V) : Prop := ∃ p v b c, y = .ref p ∧ p ≠ d ∧ H p = some (.tup [v, .bl b, .bl c]) ∧ (∀ H', ValK K H' v) ∧ isI v = b ∧ isV v = c
theorem Good.ext {K : PySem.W.Frag} {d : Addr} {H H1 : Hp} {y : V} (h : Good K d H y) (e : Ext d H H1) : Good K d H1 y := by
  obtain ⟨p, v, b, c, e1, n, e2, a, e3, e4⟩ := h
  exact ⟨p, v, b, c, e1, n, e _ _ n e2, a, e3, e4⟩
theorem good_new {K : PySem.W.Frag} {d : Addr} {H : Hp} {p : Addr} {v : V} {b c : Bool} (D : IsDice H d) (a : ∀ H', ValK K H' v) (e1 : isI v = b) (e2 : isV v = c) (hp : H p = none) :
    Good K d (upd H p (.tup [v, .bl b, .bl c])) (.ref p) ∧ Ext d H (upd H p (.tup [v, .bl b, .bl c])) ∧ IsDice (upd H p (.tup [v, .bl b, .bl c])) d :=
  ⟨⟨p, v, b, c, rfl, D.ne hp, upd_same, a, e1, e2⟩, (Ext.refl H).new hp, D.new hp⟩
/-- a value that stays one while all but d and l stands -/
def Lasts (K : PySem.W.Frag) (d l : Addr) (H : Hp) (v : V) : Prop := (∀ H', ValK K H' v) ∨ ∃ q o, v = .ref q ∧ q ≠ d ∧ q ≠ l ∧ H q = some o ∧ ∀ H', H' q = some o → ValK K H' v
theorem Lasts.keep {K : PySem.W.Frag} {d l : Addr} {H H1 : Hp} {v : V} (h : Lasts K d l H v) (e : ∀ a o, a ≠ d → a ≠ l → H a = some o → H1 a = some o) : Lasts K d l H1 v := by
  rcases h with h | ⟨q, o, e1, e2, e3, e4, e5⟩
  · exact .inl h
  · exact .inr ⟨q, o, e1, e2, e3, e _ _ e2 e3 e4, e5⟩
theorem Lasts.any {K : PySem.W.Frag} {d l : Addr} {H : Hp} {v : V} (h : Lasts K d l H v) : AnyK K d H v := by
  rcases h with h | ⟨q, o, e1, e2, e3, e4, e5⟩
  · exact fun H' _ => h H'
  · exact fun H' e => e5 H' (e _ _ e2 e4)
def Good2 (K : PySem.W.Frag) (d l : Addr) (H : Hp) (y : V) : Prop := ∃ p v b c, y = .ref p ∧ p ≠ d ∧ p ≠ l ∧ H p = some (.tup [v, .bl b, .bl c]) ∧ Lasts K d l H v ∧ isI v = b ∧ isV v = c
theorem Good2.keep {K : PySem.W.Frag} {d l : Addr} {H H1 : Hp} {y : V} (h : Good2 K d l H y) (e : ∀ a o, a ≠ d → a ≠ l → H a = some o → H1 a = some o) : Good2 K d l H1 y := by
  obtain ⟨p, v, b, c, e1, n, m, e2, a, e3, e4⟩ := h
  exact ⟨p, v, b, c, e1, n, m, e _ _ n m e2, a.keep e, e3, e4⟩
structure Rows (K : PySem.W.Frag) (d : Addr) (H H' : Hp) (l : Addr) (n : Nat) : Prop where
  ex : ∃ xs, H' l = some (.lst xs) ∧ (∀ y ∈ xs, Good K d H' y) ∧ xs.length = n
  ext : Ext d H H'
  dice : IsDice H' d
  ne : l ≠ d
  new : H l = none
theorem any_int {K : PySem.W.Frag} (i : Int) : ∀ H, ValK K H (.int i) := fun _ => .inl ⟨i, rfl⟩
theorem any_bl {K : PySem.W.Frag} (b : Bool) : ∀ H, ValK K H (.bl b) := fun _ => .inr (.inl ⟨b, rfl⟩)
theorem any_str {K : PySem.W.Frag} {x : Str} (h : x.length ≤ 1000) : ∀ H, ValK K H (.str x) := fun _ => .inr (.inr (.inl ⟨x, rfl, h⟩))
def smalls : List Int := [0, 1, 2, 9, 10, 42, 99]
def sizes : List Int := [(10 : Int) ^ (59 : Int).toNat, (10 : Int) ^ (60 : Int).toNat - 1, 200, (10 : Int) ^ (18 : Int).toNat]
theorem sizes_ok : sizes.all (fun z => isI (.int z) && isI (.int (-z))) = true := by decide +kernel
theorem smalls_ok : smalls.all (fun z => isI (.int z) && !isI (.int ((10 : Int) ^ (60 : Int).toNat + z)) && !isI (.int (-(10 : Int) ^ (60 : Int).toNat - z)) && decide (z.natAbs < 2 ^ 9 ∧ (z + 100).natAbs < 2 ^ 9)
    && isV (.str (("x" : Str) ++ (toString z : Str))) && !isV (.str (("x" : Str) ++ (toString (z + 100) : Str))) && !isV (.str (("x0" : Str) ++ (toString z : Str))) && !isV (.str (("y" : Str) ++ (toString z : Str)))
    && decide ((("x" : Str) ++ (toString z : Str)).length ≤ 9 ∧ (("x" : Str) ++ (toString (z + 100) : Str)).length ≤ 9 ∧ (("x0" : Str) ++ (toString z : Str)).length ≤ 9 ∧ (("y" : Str) ++ (toString z : Str)).length ≤ 9)
    && decide ((toString z : Str).length ≤ 9 ∧ (toString (z + 100) : Str).length ≤ 9)) = true := by decide +kernel
theorem log9 {i : Int} (h : i.natAbs < 2 ^ 9) : i.natAbs.log2 < 1920 := by
  have := PySem.Flt.log2_lt_of (k := 9) (by decide) h
  omega
theorem mem_ints {m : List Int} {x : V} (h : x ∈ m.map V.int) : ∃ y ∈ m, x = .int y := by
  obtain ⟨y, h1, h2⟩ := List.mem_map.mp h
  exact ⟨y, h1, h2.symm⟩
def sp__law_row (K : PySem.W.Frag) : Sp := fun vs H Q _ => ∃ d, vs = [.ref d] ∧ IsDice H d ∧ ∀ p v b c H', H' p = some (.tup [v, .bl b, .bl c]) → AnyK K d H' v → isI v = b → isV v = c → Ext d H H' → IsDice H' d → Q (.ref p) H'
structure Rows2 (K : PySem.W.Frag) (d : Addr) (H H' : Hp) (l : Addr) (n : Nat) : Prop where
  ex : ∃ xs, H' l = some (.lst xs) ∧ (∀ y ∈ xs, Good2 K d l H' y) ∧ xs.length = n
  ext : Ext d H H'
  dice : IsDice H' d
  ne : l ≠ d
  new : H l = none
def OddV (K : PySem.W.Frag) (d l : Addr) (H : Hp) (v : V) : Prop := Lasts K d l H v ∧ isI v = false ∧ isV v = false
theorem odd_lit {K : PySem.W.Frag} {d l : Addr} {H : Hp} {x : Str} (h : (decide (x.length ≤ 1000) && !isV (.str x)) = true) : OddV K d l H (.str x) := by
  simp only [Bool.and_eq_true, decide_eq_true_eq, Bool.not_eq_true'] at h
  exact ⟨.inl (any_str h.1), rfl, h.2⟩
section
variable {P : Program} {w : World} {K : PySem.W.Frag} {mg : Str → Option Value} {base : Heap}
theorem ok__law_row (T : Txt K mg) (c__law_pick : Cal P w K mg base "_law_pick" 2 ["_law_dice_here", "_law_items"] (sp__law_pick K)) {f : Addr} {fd : FuncData} (F : Fun K "_law_row" "_law_row" s__law_row f fd) : FnOkG P w K mg base CX0 3 f fd ["_law_dice_here"] (sp__law_row K) := by
  have nd := sc__law_row.nd
  refine F.okG sc__law_row (fun vs H Q E h => ?_) (fun cdv A outer s H vs Q E hr hG h => ?_)
  · obtain ⟨d, rfl, _⟩ := h
    rfl
  · obtain ⟨d, rfl, hd, q⟩ := h
    refine ⟨_, (pss_cons (ps_par (i := 1) (j := 2) (by rfl) nd rfl rfl (by decide) rfl rfl (pa_cons (pe_callC c__law_pick (hr.mono (by decide)) hG rfl (pa_cons (pv 0) (pa_cons (pe_lst (pa_cons (pe_op op_powW pe_int pe_int) (pa_cons (pe_op op_sub (pe_op op_powW pe_int pe_int) pe_int) (pa_cons pe_int (pa_cons (pe_op op_powW pe_int pe_int) pa_nil))))) pa_nil))) (pa_cons (pe_callC c__law_pick (hr.mono (by decide)) hG rfl (pa_cons (pv 0) (pa_cons (pe_lst (pa_cons pe_int (pa_cons pe_int (pa_cons pe_int (pa_cons pe_int (pa_cons pe_int (pa_cons pe_int (pa_cons pe_int pa_nil)))))))) pa_nil))) pa_nil)) (by rfl))
      (pss_cons (ps_set (i := 3) nd rfl (.inl rfl) (pe_lst (pa_cons (pe_tup (pa_cons (pv 1) (pa_cons pe_bl (pa_cons pe_bl pa_nil)))) (pa_cons (pe_tup (pa_cons (pe_un un_neg (pv 1)) (pa_cons pe_bl (pa_cons pe_bl pa_nil)))) (pa_cons (pe_tup (pa_cons (pe_op op_add (pe_op op_powW pe_int pe_int) (pv 2)) (pa_cons pe_bl (pa_cons pe_bl pa_nil)))) (pa_cons (pe_tup (pa_cons (pv 2) (pa_cons pe_bl (pa_cons pe_bl pa_nil)))) pa_nil))))))
      (pss_cons (ps_set (i := 3) nd rfl (.inl rfl) (pe_op op_cat (pv 3) (pe_lst (pa_cons (pe_tup (pa_cons (pe_op op_sub (pe_un un_neg (pe_op op_powW pe_int pe_int)) (pv 2)) (pa_cons pe_bl (pa_cons pe_bl pa_nil)))) (pa_cons (pe_tup (pa_cons (pe_cmpR op_eq (pv 2) pe_int (nomark _)) (pa_cons pe_bl (pa_cons pe_bl pa_nil)))) (pa_cons (pe_tup (pa_cons (pe_op op_add_str pe_str (pe_callTy call_str_int (by rfl) T.b_str (by decide +kernel) (pa_cons (pv 2) pa_nil))) (pa_cons pe_bl (pa_cons pe_bl pa_nil)))) pa_nil))))))
      (pss_cons (ps_set (i := 3) nd rfl (.inl rfl) (pe_op op_cat (pv 3) (pe_lst (pa_cons (pe_tup (pa_cons (pe_op op_add_str pe_str (pe_callTy call_str_int (by rfl) T.b_str (by decide +kernel) (pa_cons (pe_op op_add (pv 2) pe_int) pa_nil))) (pa_cons pe_bl (pa_cons pe_bl pa_nil)))) (pa_cons (pe_tup (pa_cons (pe_op op_add_str pe_str (pe_callTy call_str_int (by rfl) T.b_str (by decide +kernel) (pa_cons (pv 2) pa_nil))) (pa_cons pe_bl (pa_cons pe_bl pa_nil)))) (pa_cons (pe_tup (pa_cons (pe_op op_add_str pe_str (pe_callTy call_str_int (by rfl) T.b_str (by decide +kernel) (pa_cons (pv 2) pa_nil))) (pa_cons pe_bl (pa_cons pe_bl pa_nil)))) pa_nil))))))
      (pss_cons (ps_set (i := 3) nd rfl (.inl rfl) (pe_op op_cat (pv 3) (pe_op op_rep (pe_lst (pa_cons (pe_tup (pa_cons (pe_op op_add_str pe_str (pe_callTy call_str_int (by rfl) T.b_str (by decide +kernel) (pa_cons (pv 2) pa_nil))) (pa_cons pe_bl (pa_cons pe_bl pa_nil)))) pa_nil)) pe_int)))
      (pss_cons (ps_for PassesOwn.never rfl (pi_list (pe_lst (pa_cons pe_non (pa_cons pe_str (pa_cons pe_str (pa_cons (pe_tup (pa_cons pe_int pa_nil)) (pa_cons (pe_lst pa_nil) (pa_cons pe_dnewK (pa_cons (pe_tup pa_nil) (pa_cons (pe_tup (pa_cons pe_str pa_nil)) (pa_cons (pe_lst (pa_cons pe_str pa_nil)) (pa_cons pe_str (pa_cons pe_str (pa_cons pe_str (pa_cons pe_str (pa_cons pe_str (pa_cons pe_str (pa_cons pe_str (pa_cons pe_str (pa_cons pe_str pa_nil)))))))))))))))))))) (pg_name (i := 4) nd rfl (.inl rfl)) (pss_one (ps_expr (pe_bm PySem.F.plainAttrs_list PySem.F.slot_list_append PySem.F.type_list_append mt_append (pv 3) (pa_cons (pe_tup (pa_cons (pv 4) (pa_cons pe_bl (pa_cons pe_bl pa_nil)))) pa_nil)))))
      (pss_one (ps_ret (pe_callC c__law_pick (hr.mono (by decide)) hG rfl (pa_cons (pv 0) (pa_cons (pv 3) pa_nil))))))))))), ?_⟩
    have t3 : 3 ≤ sizeLine := by decide
    -- the two drawn numbers
    refine ⟨.ref d, rfl, 10, 59, rfl, rfl, ⟨by decide, by decide +kernel⟩, 10, 60, rfl, rfl, ⟨by decide, by decide +kernel⟩, _, _, rfl, rfl, 10, 18, rfl, rfl, ⟨by decide, by decide +kernel⟩, by show 4 ≤ sizeLine; decide, fun p hp => ?_⟩
    refine ⟨d, p, sizes.map V.int, rfl, hd.new hp, SqL.of upd_same, hd.ne hp, by simp [sizes], by decide, fun x H1 hx e1 d1 => ?_⟩
    obtain ⟨z, hz, rfl⟩ := mem_ints hx
    refine ⟨.ref d, rfl, by show 7 ≤ sizeLine; decide, fun p' hp' => ?_⟩
    refine ⟨d, p', smalls.map V.int, rfl, d1.new hp', SqL.of upd_same, d1.ne hp', by simp [smalls], by decide, fun x H2 hx e2 d2 => ?_⟩
    obtain ⟨y, hy, rfl⟩ := mem_ints hx
    refine ⟨_, _, rfl, ?_⟩
    have E2 : Ext d H H2 := (((Ext.refl H).new hp).trans e1).trans (((Ext.refl H1).new hp').trans e2)
    clear e1 d1 e2
    have zz := List.all_eq_true.mp sizes_ok z hz
    have yy := List.all_eq_true.mp smalls_ok y hy
    simp only [Bool.and_eq_true, Bool.not_eq_true', decide_eq_true_eq] at zz yy
    obtain ⟨z1, z2⟩ := zz
    obtain ⟨⟨⟨⟨⟨⟨⟨⟨⟨y1, y2⟩, y3⟩, y4, y5⟩, y6⟩, y7⟩, y8⟩, y9⟩, y10, y11, y12, y13⟩, y14, y15⟩ := yy
    have s9 : ∀ a b : Nat, a ≤ 2 → b ≤ 9 → a + b ≤ sizeLine := fun a b h1 h2 => Nat.le_trans (Nat.add_le_add h1 h2) (by decide)
    -- the first four rows
    try dsimp only
    refine cut_set (fun v H' => ∃ l, v = .ref l ∧ Rows K d H H' l 4) (fun Q' q' => ?_) ?_
    · refine ⟨_, rfl, t3, fun p1 h1 => ?_⟩
      obtain ⟨g1, f1, k1⟩ := good_new (K := K) (b := true) (c := false) d2 (any_int z) z1 rfl h1
      refine ⟨_, rfl, z, rfl, t3, fun p2 h2 => ?_⟩
      obtain ⟨g2, f2, k2⟩ := good_new (K := K) (b := true) (c := false) k1 (any_int (-z)) z2 rfl h2
      refine ⟨10, 60, rfl, rfl, ⟨by decide, by decide +kernel⟩, _, rfl, _, _, rfl, rfl, t3, fun p3 h3 => ?_⟩
      obtain ⟨g3, f3, k3⟩ := good_new (K := K) (b := false) (c := false) k2 (any_int ((10 : Int) ^ (60 : Int).toNat + y)) y2 rfl h3
      refine ⟨_, rfl, t3, fun p4 h4 => ?_⟩
      obtain ⟨g4, f4, k4⟩ := good_new (K := K) (b := true) (c := false) k3 (any_int y) y1 rfl h4
      refine ⟨by show 4 ≤ sizeLine; decide, fun l hl => q' _ _ ⟨l, rfl, ⟨_, upd_same, ?_, rfl⟩, (E2.trans (f1.trans (f2.trans (f3.trans f4)))).new hl, k4.new hl, k4.ne hl, (E2.trans (f1.trans (f2.trans (f3.trans f4)))).none (k4.ne hl) hl⟩⟩
      intro v hv
      simp only [List.mem_cons, List.not_mem_nil, or_false] at hv
      have g4' := g4.ext ((Ext.refl _).new (o := .lst [.ref p1, .ref p2, .ref p3, .ref p4]) hl)
      have g3' := (g3.ext f4).ext ((Ext.refl _).new (o := .lst [.ref p1, .ref p2, .ref p3, .ref p4]) hl)
      have g2' := ((g2.ext f3).ext f4).ext ((Ext.refl _).new (o := .lst [.ref p1, .ref p2, .ref p3, .ref p4]) hl)
      have g1' := (((g1.ext f2).ext f3).ext f4).ext ((Ext.refl _).new (o := .lst [.ref p1, .ref p2, .ref p3, .ref p4]) hl)
      rcases hv with rfl | rfl | rfl | rfl
      · exact g1'
      · exact g2'
      · exact g3'
      · exact g4'
    rintro v H3 ⟨l3, rfl, R3⟩
    -- three more
    try dsimp only
    refine cut_set (fun v H' => ∃ l, v = .ref l ∧ Rows K d H H' l 7) (fun Q' q' => ?_) ?_
    · obtain ⟨⟨xs, hl3, gx, lx⟩, E3, D3, n3, w3⟩ := R3
      refine ⟨_, rfl, 10, 60, rfl, rfl, ⟨by decide, by decide +kernel⟩, _, rfl, _, rfl, _, _, rfl, rfl, t3, fun p1 h1 => ?_⟩
      obtain ⟨g1, f1, k1⟩ := good_new (K := K) (b := false) (c := false) D3 (any_int (-(10 : Int) ^ (60 : Int).toNat - y)) y3 rfl h1
      refine ⟨_, rfl, rfl, t3, fun p2 h2 => ?_⟩
      obtain ⟨g2, f2, k2⟩ := good_new (K := K) (b := false) (c := false) k1 (any_bl (decide (V.int y = V.int 1))) rfl rfl h2
      refine ⟨_, rfl, y, rfl, log9 y4, _, _, rfl, rfl, s9 1 _ (by decide) y14, t3, fun p3' h3 => ?_⟩
      obtain ⟨g3, f3, k3⟩ := good_new (K := K) (b := false) (c := true) k2 (any_str (x := ("x" : Str) ++ (toString y : Str)) (by omega)) rfl y6 h3
      refine ⟨by show 3 ≤ sizeLine; decide, fun l hl => ?_⟩
      have fx := f1.trans (f2.trans f3)
      have hl3' := ((Ext.refl _).new (o := .lst [.ref p1, .ref p2, .ref p3']) hl) _ _ n3 (fx _ _ n3 hl3)
      refine ⟨l3, l, xs, _, rfl, rfl, hl3', upd_same, lt_line (by rw [lx]; simp only [List.length_cons, List.length_nil]; omega), fun r hr => q' _ _ ⟨r, rfl, ⟨_, upd_same, ?_, by rw [List.length_append, lx]; rfl⟩, ((E3.trans fx).new hl).new hr, (k3.new hl).new hr, (k3.new hl).ne hr, ((E3.trans fx).new hl).none ((k3.new hl).ne hr) hr⟩⟩
      intro v hv
      have last : ∀ {y : V}, Good K d _ y → Good K d _ y := fun {y} g => (g.ext ((Ext.refl _).new (o := .lst [.ref p1, .ref p2, .ref p3']) hl)).ext ((Ext.refl _).new (o := .lst (xs ++ [.ref p1, .ref p2, .ref p3'])) hr)
      rcases List.mem_append.mp hv with hv | hv
      · exact last ((gx v hv).ext fx)
      · simp only [List.mem_cons, List.not_mem_nil, or_false] at hv
        rcases hv with rfl | rfl | rfl
        · exact last ((g1.ext f2).ext f3)
        · exact last (g2.ext f3)
        · exact last g3
    rintro v H4 ⟨l4, rfl, R4⟩
    -- three more
    try dsimp only
    refine cut_set (fun v H' => ∃ l, v = .ref l ∧ Rows K d H H' l 10) (fun Q' q' => ?_) ?_
    · obtain ⟨⟨xs, hl3, gx, lx⟩, E3, D3, n3, w3⟩ := R4
      refine ⟨_, rfl, _, rfl, _, _, rfl, rfl, _, rfl, log9 y5, _, _, rfl, rfl, s9 1 _ (by decide) y15, t3, fun p1 h1 => ?_⟩
      obtain ⟨g1, f1, k1⟩ := good_new (K := K) (b := false) (c := false) D3 (any_str (x := ("x" : Str) ++ (toString (y + 100) : Str)) (by omega)) rfl y7 h1
      refine ⟨_, rfl, y, rfl, log9 y4, _, _, rfl, rfl, s9 2 _ (by decide) y14, t3, fun p2 h2 => ?_⟩
      obtain ⟨g2, f2, k2⟩ := good_new (K := K) (b := false) (c := false) k1 (any_str (x := ("x0" : Str) ++ (toString y : Str)) (by omega)) rfl y8 h2
      refine ⟨_, rfl, y, rfl, log9 y4, _, _, rfl, rfl, s9 1 _ (by decide) y14, t3, fun p3' h3 => ?_⟩
      obtain ⟨g3, f3, k3⟩ := good_new (K := K) (b := false) (c := false) k2 (any_str (x := ("y" : Str) ++ (toString y : Str)) (by omega)) rfl y9 h3
      refine ⟨by show 3 ≤ sizeLine; decide, fun l hl => ?_⟩
      have fx := f1.trans (f2.trans f3)
      have hl3' := ((Ext.refl _).new (o := .lst [.ref p1, .ref p2, .ref p3']) hl) _ _ n3 (fx _ _ n3 hl3)
      refine ⟨l4, l, xs, _, rfl, rfl, hl3', upd_same, lt_line (by rw [lx]; simp only [List.length_cons, List.length_nil]; omega), fun r hr => q' _ _ ⟨r, rfl, ⟨_, upd_same, ?_, by rw [List.length_append, lx]; rfl⟩, ((E3.trans fx).new hl).new hr, (k3.new hl).new hr, (k3.new hl).ne hr, ((E3.trans fx).new hl).none ((k3.new hl).ne hr) hr⟩⟩
      intro v hv
      have last : ∀ {y : V}, Good K d _ y → Good K d _ y := fun {y} g => (g.ext ((Ext.refl _).new (o := .lst [.ref p1, .ref p2, .ref p3']) hl)).ext ((Ext.refl _).new (o := .lst (xs ++ [.ref p1, .ref p2, .ref p3'])) hr)
      rcases List.mem_append.mp hv with hv | hv
      · exact last ((gx v hv).ext fx)
      · simp only [List.mem_cons, List.not_mem_nil, or_false] at hv
        rcases hv with rfl | rfl | rfl
        · exact last ((g1.ext f2).ext f3)
        · exact last (g2.ext f3)
        · exact last g3
    rintro v H5 ⟨l5, rfl, R5⟩
    -- one more, three times
    try dsimp only
    refine cut_set (fun v H' => ∃ l, v = .ref l ∧ Rows K d H H' l 13) (fun Q' q' => ?_) ?_
    · obtain ⟨⟨xs, hl3, gx, lx⟩, E3, D3, n3, w3⟩ := R5
      refine ⟨_, rfl, _, rfl, y, rfl, log9 y4, _, _, rfl, rfl, s9 1 _ (by decide) y14, t3, fun p1 h1 => ?_⟩
      obtain ⟨g1, f1, k1⟩ := good_new (K := K) (b := false) (c := true) D3 (any_str (x := ("x" : Str) ++ (toString y : Str)) (by omega)) rfl y6 h1
      refine ⟨by show 1 ≤ sizeLine; decide, fun l hl => ?_⟩
      refine ⟨l, 3, _, rfl, rfl, upd_same, by decide, by decide, by show 1 * 3 ≤ sizeLine; decide, fun m hm => ?_⟩
      have e1 := (Ext.refl _).new (d := d) (o := .lst [.ref p1]) hl
      have e2 := e1.new (o := .lst [.ref p1, .ref p1, .ref p1]) hm
      have hl3' := e2 _ _ n3 (f1 _ _ n3 hl3)
      refine ⟨l5, m, xs, [.ref p1, .ref p1, .ref p1], rfl, rfl, hl3', upd_same, lt_line (by rw [lx]; simp only [List.length_cons, List.length_nil]; omega), fun r hr => q' _ _ ⟨r, rfl, ⟨_, upd_same, ?_, by rw [List.length_append, lx]; rfl⟩, ((E3.trans f1).trans e2).new hr, ((k1.new hl).new hm).new hr, ((k1.new hl).new hm).ne hr, ((E3.trans f1).trans e2).none (((k1.new hl).new hm).ne hr) hr⟩⟩
      intro v hv
      have last : ∀ {y : V}, Good K d _ y → Good K d _ y := fun {y} g => (g.ext e2).ext ((Ext.refl _).new (o := .lst (xs ++ [.ref p1, .ref p1, .ref p1])) hr)
      rcases List.mem_append.mp hv with hv | hv
      · exact last ((gx v hv).ext f1)
      · simp only [List.mem_cons, List.not_mem_nil, or_false, or_self] at hv
        rw [hv]
        exact last g1
    rintro v H6 ⟨l6, rfl, R6⟩
    obtain ⟨⟨xs, hl6, gx, lx⟩, E6, D6, n6, w6⟩ := R6
    have R6 : Rows2 K d H H6 l6 13 := by
      refine ⟨⟨xs, hl6, fun y hy => ?_, lx⟩, E6, D6, n6, w6⟩
      obtain ⟨p, v, b, c, e1, n, e2, a, e3, e4⟩ := gx y hy
      exact ⟨p, v, b, c, e1, n, ne_of e2 hl6 (fun z => nomatch z), e2, .inl a, e3, e4⟩
    clear gx lx E6 D6 hl6
    -- the odd values, one row each
    refine cut_for (fun σ' H' => ∃ s4, σ' = [some (.ref d), some (.int z), some (.int y), some (.ref l6), s4] ∧ Rows2 K d H H' l6 (13 + 18)) (fun N hN => ?_) ?_
    · refine cut_it (fun v H' => ∃ p odd, v = .ref p ∧ p ≠ d ∧ p ≠ l6 ∧ H' p = some (.lst odd) ∧ odd.length = 18 ∧ (∀ y ∈ odd, OddV K d l6 H' y) ∧ Rows2 K d H H' l6 13) (fun Q' q' => ?_) ?_
      · obtain ⟨⟨xs, hl6, gx, lx⟩, E6, D6, n6, w6⟩ := R6
        refine ⟨by show 1 ≤ sizeLine; decide, fun p1 h1 => ⟨by show 0 ≤ sizeLine; decide, fun p2 h2 p3 h3 => ⟨by show 0 ≤ sizeLine; decide, fun p4 h4 => ⟨by show 1 ≤ sizeLine; decide, fun p5 h5 => ⟨by show 1 ≤ sizeLine; decide, fun p6 h6 => ⟨by show 18 ≤ sizeLine; decide, fun p7 h7 => ?_⟩⟩⟩⟩⟩⟩
        have s1 := (Same.refl H6).new (o := .tup [.int 1]) h1
        have a1 : (upd H6 p1 (.tup [.int 1])) p1 = some (.tup [.int 1]) := upd_same
        have D1 := D6.new (o := .tup [.int 1]) h1
        have s2 := (Same.refl _).new (o := .lst []) h2
        have D2 := D1.new (o := .lst []) h2
        have a2 : (upd (upd H6 p1 (.tup [.int 1])) p2 (.lst [])) p2 = some (.lst []) := upd_same
        have s3 := (Same.refl _).new (o := .dK []) h3
        have D3 := D2.new (o := .dK []) h3
        have a3 : (upd (upd (upd H6 p1 (.tup [.int 1])) p2 (.lst [])) p3 (.dK [])) p3 = some (.dK []) := upd_same
        have s4 := (Same.refl _).new (o := .tup []) h4
        have D4 := D3.new (o := .tup []) h4
        have a4 : (upd (upd (upd (upd H6 p1 (.tup [.int 1])) p2 (.lst [])) p3 (.dK [])) p4 (.tup [])) p4 = some (.tup []) := upd_same
        have s5 := (Same.refl _).new (o := .tup [.str "x0"]) h5
        have D5 := D4.new (o := .tup [.str "x0"]) h5
        have a5 : (upd (upd (upd (upd (upd H6 p1 (.tup [.int 1])) p2 (.lst [])) p3 (.dK [])) p4 (.tup [])) p5 (.tup [.str "x0"])) p5 = some (.tup [.str "x0"]) := upd_same
        have s6 := (Same.refl _).new (o := .lst [.str "x0"]) h6
        have D6' := D5.new (o := .lst [.str "x0"]) h6
        have a6 : (upd (upd (upd (upd (upd (upd H6 p1 (.tup [.int 1])) p2 (.lst [])) p3 (.dK [])) p4 (.tup [])) p5 (.tup [.str "x0"])) p6 (.lst [.str "x0"])) p6 = some (.lst [.str "x0"]) := upd_same
        have sA := s1.trans (s2.trans (s3.trans (s4.trans (s5.trans s6))))
        have n7 := D6'.ne h7
        have m7 : p7 ≠ l6 := fun e => by
          have := sA _ _ hl6
          rw [← e, h7] at this
          cases this
        have q1 := (s2.trans (s3.trans (s4.trans (s5.trans s6)))) _ _ a1
        have q2 := (s3.trans (s4.trans (s5.trans s6))) _ _ a2
        have q3 := (s4.trans (s5.trans s6)) _ _ a3
        have q4 := (s5.trans s6) _ _ a4
        have q5 := s6 _ _ a5
        have m1 : p1 ≠ l6 := (ne_of_none hl6 h1).symm
        have m2 : p2 ≠ l6 := (ne_of_none (s1 _ _ hl6) h2).symm
        have m3 : p3 ≠ l6 := (ne_of_none ((s1.trans s2) _ _ hl6) h3).symm
        have m4 : p4 ≠ l6 := (ne_of_none ((s1.trans (s2.trans s3)) _ _ hl6) h4).symm
        have m5 : p5 ≠ l6 := (ne_of_none ((s1.trans (s2.trans (s3.trans s4))) _ _ hl6) h5).symm
        have m6 : p6 ≠ l6 := (ne_of_none ((s1.trans (s2.trans (s3.trans (s4.trans s5)))) _ _ hl6) h6).symm
        refine q' _ _ ⟨p7, _, rfl, n7, m7, upd_same, rfl, ?_, ⟨xs, ((Same.refl _).new h7) _ _ (sA _ _ hl6), fun v hv => (gx v hv).keep fun a o _ _ e => ((Same.refl _).new h7) _ _ (sA _ _ e), lx⟩, (E6.trans (Ext.same sA)).new h7, D6'.new h7, n6, w6⟩
        intro v hv
        have last : ∀ {o : HO}, OddV K d l6 _ v → OddV K d l6 (upd _ p7 o) v := fun {o} h => ⟨h.1.keep fun a o' _ _ e => ((Same.refl _).new h7) _ _ e, h.2⟩
        refine last ?_
        simp only [List.mem_cons, List.not_mem_nil, or_false] at hv
        rcases hv with rfl | rfl | rfl | rfl | rfl | rfl | rfl | rfl | rfl | rfl | rfl | rfl | rfl | rfl | rfl | rfl | rfl | rfl
        · exact ⟨.inl fun _ => .inr (.inr (.inr ⟨_, .base .non, kit_ty (by decide +kernel), kit_ty (by decide +kernel), rfl, rfl⟩)), rfl, rfl⟩
        · exact odd_lit (by decide +kernel)
        · exact odd_lit (by decide +kernel)
        · exact ⟨.inr ⟨p1, _, rfl, D6.ne h1, m1, q1, fun _ e => .inr (.inr (.inr ⟨_, .base (.tup e), kit_ty (by decide +kernel), kit_ty (by decide +kernel), rfl, rfl⟩))⟩, rfl, rfl⟩
        · exact ⟨.inr ⟨p2, _, rfl, D1.ne h2, m2, q2, fun _ e => .inr (.inr (.inr ⟨_, .base (.lst e), kit_ty (by decide +kernel), kit_ty (by decide +kernel), rfl, rfl⟩))⟩, rfl, rfl⟩
        · exact ⟨.inr ⟨p3, _, rfl, D2.ne h3, m3, q3, fun _ e => .inr (.inr (.inr ⟨_, .base (.dK e), kit_ty (by decide +kernel), kit_ty (by decide +kernel), rfl, rfl⟩))⟩, rfl, rfl⟩
        · exact ⟨.inr ⟨p4, _, rfl, D3.ne h4, m4, q4, fun _ e => .inr (.inr (.inr ⟨_, .base (.tup e), kit_ty (by decide +kernel), kit_ty (by decide +kernel), rfl, rfl⟩))⟩, rfl, rfl⟩
        · exact ⟨.inr ⟨p5, _, rfl, D4.ne h5, m5, q5, fun _ e => .inr (.inr (.inr ⟨_, .base (.tup e), kit_ty (by decide +kernel), kit_ty (by decide +kernel), rfl, rfl⟩))⟩, rfl, rfl⟩
        · exact ⟨.inr ⟨p6, _, rfl, D5.ne h6, m6, a6, fun _ e => .inr (.inr (.inr ⟨_, .base (.lst e), kit_ty (by decide +kernel), kit_ty (by decide +kernel), rfl, rfl⟩))⟩, rfl, rfl⟩
        all_goals exact odd_lit (by decide +kernel)
      · rintro v H7 ⟨p, odd, rfl, pd, pl, hp7, ol, ao, R7⟩
        refine ⟨p, rfl, ⟨_, SqL.of hp7⟩, for_list (xs := odd) (fun i σ' H' => ∃ s4, σ' = [some (.ref d), some (.int z), some (.int y), some (.ref l6), s4] ∧ H' p = some (.lst odd) ∧ (∀ y ∈ odd, OddV K d l6 H' y) ∧ Rows2 K d H H' l6 (13 + i)) ?_ ?_ ?_ ?_⟩
        · exact ⟨_, rfl, hp7, ao, R7⟩
        · rintro i σ' H' _ ⟨s4, rfl, h, _⟩
          exact SqL.of h
        · rintro i x σ' H' hx ⟨s4, rfl, hp8, ao8, ⟨xs, hl8, gx, lx⟩, E8, D8, _, _⟩
          have io := lt_of_get hx
          refine ⟨.ref l6, rfl, .inl ⟨rfl, _, SqL.of hl8⟩, x, rfl, t3, fun p' hp' => ?_⟩
          have hne : l6 ≠ p' := ne_of_none hl8 hp'
          have hne2 : p ≠ p' := ne_of_none hp8 hp'
          refine ⟨l6, xs, .ref p', rfl, rfl, by rw [upd_ne hne]; exact hl8, lt_line' (by rw [lx]; omega), ?_⟩
          have keep : ∀ a o, a ≠ d → a ≠ l6 → H' a = some o → (upd (upd H' p' (.tup [x, .bl false, .bl false])) l6 (.lst (xs ++ [.ref p']))) a = some o := fun a o _ h2 e => by
            rw [upd_ne h2, upd_ne (ne_of_none e hp')]
            exact e
          obtain ⟨ox, oi, ov⟩ := ao8 x (List.mem_of_getElem? hx)
          refine ⟨_, rfl, keep _ _ pd pl hp8, fun y hy => ⟨(ao8 y hy).1.keep keep, (ao8 y hy).2⟩, ⟨_, upd_same, ?_, by rw [List.length_append, lx]; rfl⟩, (E8.new hp').mut w6, (D8.new hp').mut n6, n6, w6⟩
          intro v hv
          rcases List.mem_append.mp hv with hv | hv
          · exact (gx v hv).keep keep
          · rw [List.mem_singleton.mp hv]
            exact ⟨p', x, false, false, rfl, D8.ne hp', hne.symm, by rw [upd_ne hne.symm]; exact upd_same, ox.keep keep, oi, ov⟩
        · rintro σ' H' ⟨s4, rfl, _, _, R8⟩
          rw [ol] at R8
          exact hN _ _ ⟨s4, rfl, R8⟩
    · rintro σ' H7 ⟨s4, rfl, ⟨xs, hl7, gx, lx⟩, E7, D7, n7, w7⟩
      refine ⟨.ref d, rfl, .ref l6, rfl, d, l6, xs, rfl, D7, SqL.of hl7, n7, ?_, by omega, fun x H8 hx e8 d8 => ?_⟩
      · intro z
        rw [z] at lx
        simp at lx
      · obtain ⟨p, v, b, c, rfl, n, _, e2, a, e3, e4⟩ := gx x hx
        exact q p v b c H8 (e8 _ _ n e2) (a.any.ext e8) e3 e4 (E7.trans e8) d8
end

theorem bb_len : ∀ b c : Bool, (PyData.list [.bool b, .bool c]).shown.length ≤ sizeLine := by
  intro b c
  refine lt_line ?_
  cases b <;> cases c <;> decide +kernel
theorem bb_dep : ∀ b c : Bool, (PyData.list [.bool b, .bool c]).depth ≤ 20 := by decide
theorem asked_ints : [isI (.int ((10 : Int) ^ (60 : Int).toNat - 1)), isI (.int ((10 : Int) ^ (60 : Int).toNat)), isI (.int (-(10 : Int) ^ (60 : Int).toNat)), isI (.bl true)] = [true, false, false, false] := by decide +kernel
def ats : List Int := [0, 99, 100]
theorem ats_ok : ats.all (fun z => decide (z.natAbs < 2 ^ 9 ∧ (toString z : Str).length ≤ 9 ∧ (("x" : Str) ++ (toString z : Str)).length ≤ 9)) = true := by decide +kernel
section
variable {P : Program} {w : World} {K : PySem.W.Frag} {mg : Str → Option Value} {base : Heap}
theorem ok_law (T : Txt K mg) (c_is_integer : Cal P w K mg base "is_integer" 1 ["value"] (sp_is_integer K)) (c_is_variable : Cal P w K mg base "is_variable" 1 ["value"] (sp_is_variable K)) (c__law_dice : Cal P w K mg base "_law_dice" 1 ["_law_script", "_law_spot"] (sp__law_dice K)) (c__law_row : Cal P w K mg base "_law_row" 3 ["_law_dice_here"] (sp__law_row K)) {f : Addr} {fd : FuncData} (F : Fun K "law" "law" s_law f fd) : FnOkG P w K mg base CX0 4 f fd ["_law_script"] (sp_law K) := by
  have nd := sc_law.nd
  refine F.okG sc_law (fun vs H Q E h => ?_) (fun cdv A outer s H vs Q E hr hG h => ?_)
  · obtain ⟨a, ns, rfl, _⟩ := h
    rfl
  · obtain ⟨a, ns, rfl, hS, hn, q⟩ := h
    refine ⟨_, (pss_cons (ps_for PassesOwn.never rfl (pi_range1 (by rfl) T.b_range (pa_cons (pe_callB (call_max2 rfl) (by rfl) T.b_max (by decide +kernel) (pa_cons pe_int (pa_cons (pe_callB (call_min2 rfl) (by rfl) T.b_min (by decide +kernel) (pa_cons pe_int (pa_cons (pe_callB call_len (by rfl) T.b_len (by decide +kernel) (pa_cons (pv 0) pa_nil)) pa_nil))) pa_nil))) pa_nil)) (pg_name (i := 1) nd rfl (.inl rfl)) (pss_cons (ps_set (i := 2) nd rfl (.inl rfl) (pe_callC c__law_dice (hr.mono (by decide)) hG rfl (pa_cons (pv 0) (pa_cons (pv 1) pa_nil))))
      (pss_one (ps_for PassesOwn.never rfl (pi_range1 (by rfl) T.b_range (pa_cons pe_int pa_nil)) (pg_name (i := 3) nd rfl (.inl rfl)) (pss_cons (ps_asg (pe_callC c__law_row (hr.mono (by decide)) hG rfl (pa_cons (pv 2) pa_nil)) (pg_tup (by rfl) (pgs_cons (pg_name (i := 4) nd rfl (.inl rfl)) (pgs_cons (pg_name (i := 5) nd rfl (.inl rfl)) (pgs_cons (pg_name (i := 6) nd rfl (.inl rfl)) pgs_nil)))))
      (pss_one (ps_if (pt_cmpR op_ne (pe_callB (call_repr_data hG hr.units) (by rfl) T.b_repr (by decide +kernel) (pa_cons (pe_lst (pa_cons (pe_callC c_is_integer (hr.mono (by decide)) hG rfl (pa_cons (pv 4) pa_nil)) (pa_cons (pe_callC c_is_variable (hr.mono (by decide)) hG rfl (pa_cons (pv 4) pa_nil)) pa_nil))) pa_nil)) (pe_callB (call_repr_data hG hr.units) (by rfl) T.b_repr (by decide +kernel) (pa_cons (pe_lst (pa_cons (pv 5) (pa_cons (pv 6) pa_nil))) pa_nil)) (nomark _)) (pss_one (ps_ret pe_bl)) pss_nil)))))))
      (pss_cons (ps_if (pt_cmpR (op_neD hr.units) (pe_lst (pa_cons (pe_callC c_is_integer (hr.mono (by decide)) hG rfl (pa_cons (pe_op op_sub (pe_op op_powW pe_int pe_int) pe_int) pa_nil)) (pa_cons (pe_callC c_is_integer (hr.mono (by decide)) hG rfl (pa_cons (pe_op op_powW pe_int pe_int) pa_nil)) (pa_cons (pe_callC c_is_integer (hr.mono (by decide)) hG rfl (pa_cons (pe_un un_neg (pe_op op_powW pe_int pe_int)) pa_nil)) (pa_cons (pe_callC c_is_integer (hr.mono (by decide)) hG rfl (pa_cons pe_bl pa_nil)) pa_nil))))) (pe_op op_cat (pe_lst (pa_cons pe_bl pa_nil)) (pe_op op_rep (pe_lst (pa_cons pe_bl pa_nil)) pe_int)) (nomark _)) (pss_one (ps_ret pe_bl)) pss_nil)
      (pss_one (ps_ret (pe_cmpR (op_eqD hr.units) (pe_lcD (own := [("_law_at", 7)]) (by rfl) nd (pi_list (pe_lst (pa_cons pe_int (pa_cons pe_int (pa_cons pe_int pa_nil))))) (blkOk_by (own := [("_law_at", 7)]) (N := ["_law_script", "_law_spot", "_law_dice_here", "_law_turn", "_law_value", "_law_is_number", "_law_fits", "_law_at"]) (sc := (defScope s_law)) (by decide +kernel)) (fun _ _ _ _ _ => pg_name (i := 7) nd rfl (Or.inl rfl)) (fun _ _ _ _ _ => pts_nil) (fun _ _ _ _ _ => (pe_callC c_is_variable (hr.mono (by decide)) hG rfl (pa_cons (pe_op op_add_str pe_str (pe_callTy call_str_int (by rfl) T.b_str (by decide +kernel) (pa_cons (pv 7) pa_nil))) pa_nil)))) (pe_lst (pa_cons pe_bl (pa_cons pe_bl (pa_cons pe_bl pa_nil)))) (nomark _)))))), ?_⟩
    have t2 : 2 ≤ sizeLine := by decide
    obtain ⟨j1, j2⟩ := cells_ok hn _ rfl
    refine ⟨.ref a, rfl, .ref a, _, rfl, .inl ⟨_, hS, rfl⟩, 8, _, rfl, 1, _, rfl, _, rfl, ?_, ?_, ?_⟩
    · rw [List.length_map]
      omega
    · rw [List.length_map]
      omega
    rw [List.length_map]
    refine for_range (lo := 0) (fun i σ H' => (∃ s1 s2 s3 s4 s5 s6 s7, σ = [some (.ref a), s1, s2, s3, s4, s5, s6, s7]) ∧ Same H H') ?_ (fun i σ H1 hi hP => ?_) (fun σ H1 hP => ?_)
    · exact ⟨⟨_, _, _, _, _, _, _, rfl⟩, Same.refl H⟩
    · obtain ⟨⟨s1, s2, s3, s4, s5, s6, s7, rfl⟩, sm⟩ := hP
      refine ⟨.ref a, rfl, _, rfl, a, ns, _, rfl, sm.seq hS, by omega, by omega, fun d o hd dd => ?_⟩
      have hdH : H d = none := sm.free hd
      refine ⟨30, rfl, by decide, by decide, for_range (lo := 0) (fun j σ H' => (∃ s1 s3 s4 s5 s6 s7, σ = [some (.ref a), s1, some (.ref d), s3, s4, s5, s6, s7]) ∧ Same H H' ∧ IsDice H' d) ?_ (fun j σ H2 hj hP => ?_) (fun σ H2 hP => ?_)⟩
      · exact ⟨⟨_, _, _, _, _, _, rfl⟩, sm.mut hdH, dd⟩
      · obtain ⟨⟨s1, s3, s4, s5, s6, s7, rfl⟩, sm2, d2⟩ := hP
        refine ⟨.ref d, rfl, d, rfl, d2, fun p v b c H3 hp hv eI eV e3 d3 => ?_⟩
        have m3 := same_ext sm2 hdH e3
        subst eI eV
        refine ⟨p, _, rfl, SqT.of hp, rfl, v, _, rfl, .bl (isI v), _, rfl, .bl (isV v), [], rfl, rfl, ?_⟩
        refine ⟨v, rfl, v, rfl, hv _ (Ext.refl _), fun H4 s4' => ⟨v, rfl, v, rfl, hv _ (Ext.same s4'), fun H5 s5' => ⟨t2, fun l1 h1 => ?_⟩⟩⟩
        have s6' := (Same.refl H5).new (o := .lst [.bl (isI v), .bl (isV v)]) h1
        refine ⟨l1, .list [.bool (isI v), .bool (isV v)], rfl, .lst (SqL.of upd_same) (.cons (.bl _) (.cons (.bl _) .nil)), rfl, rfl, bb_dep _ _, bb_len _ _, ?_⟩
        refine ⟨.bl (isI v), rfl, .bl (isV v), rfl, t2, fun l2 h2 => ?_⟩
        refine ⟨l2, .list [.bool (isI v), .bool (isV v)], rfl, .lst (SqL.of upd_same) (.cons (.bl _) (.cons (.bl _) .nil)), rfl, rfl, bb_dep _ _, bb_len _ _, ?_⟩
        refine ⟨rfl, _, rfl, ?_⟩
        refine iteNS rfl ?_
        exact ⟨⟨_, _, _, _, _, _, rfl⟩, (((m3.trans s4').trans s5').new h1).new h2, (((d3.same s4').same s5').new h1).new h2⟩
      · obtain ⟨⟨s1, s3, s4, s5, s6, s7, rfl⟩, sm2, d2⟩ := hP
        exact ⟨⟨_, _, _, _, _, _, _, rfl⟩, sm2⟩
    · obtain ⟨⟨s1, s2, s3, s4, s5, s6, s7, rfl⟩, sm⟩ := hP
      have p60 : (0 : Int) ≤ 60 ∧ (Builtin.Int.intBits 10 : Int) * 60 ≤ 2 ^ 27 := ⟨by decide, by decide +kernel⟩
      refine ⟨10, 60, rfl, rfl, p60, _, _, rfl, rfl, _, rfl, .inl ⟨_, rfl⟩, fun H2 m2 => ?_⟩
      refine ⟨10, 60, rfl, rfl, p60, _, rfl, .inl ⟨_, rfl⟩, fun H3 m3 => ?_⟩
      refine ⟨10, 60, rfl, rfl, p60, _, rfl, _, rfl, .inl ⟨_, rfl⟩, fun H4 m4 => ?_⟩
      refine ⟨_, rfl, .inr (.inl ⟨_, rfl⟩), fun H5 m5 => ⟨by show 4 ≤ sizeLine; decide, fun l1 h1 => ?_⟩⟩
      refine ⟨by show 1 ≤ sizeLine; decide, fun l2 h2 => ⟨by show 1 ≤ sizeLine; decide, fun l3 h3 => ?_⟩⟩
      refine ⟨l3, 3, _, rfl, rfl, upd_same, by decide, by decide, by show 1 * 3 ≤ sizeLine; decide, fun l4 h4 => ?_⟩
      have a2 := ((((Same.refl _).new (o := .lst [.bl false]) h3).new (o := .lst [.bl false, .bl false, .bl false]) h4)) l2 _ (upd_same (H := upd H5 l1 _) (o := .lst [.bl true]))
      refine ⟨l2, l4, [.bl true], [.bl false, .bl false, .bl false], rfl, rfl, a2, upd_same, by show 1 + 3 ≤ sizeLine; decide, fun l5 h5 => ?_⟩
      have a1 := (((((Same.refl _).new (o := .lst [.bl true]) h2).new (o := .lst [.bl false]) h3).new (o := .lst [.bl false, .bl false, .bl false]) h4).new (o := .lst [.bl true, .bl false, .bl false, .bl false]) h5) l1 _ (upd_same (H := H5)
        (o := .lst ([isI (.int ((10 : Int) ^ (60 : Int).toNat - 1)), isI (.int ((10 : Int) ^ (60 : Int).toNat)), isI (.int (-(10 : Int) ^ (60 : Int).toNat)), isI (.bl true)].map V.bl)))
      rw [asked_ints] at a1
      refine ⟨_, _, .lst (SqL.of a1) (dp_bls [true, false, false, false]), .lst (SqL.of upd_same) (dp_bls [true, false, false, false]), by decide +kernel, by decide +kernel, false, ?_, ?_⟩
      · exact congrArg V.bl (by decide +kernel)
      refine iteF ?_
      refine ⟨by show 3 ≤ sizeLine; decide, fun p hp => ⟨p, rfl, ⟨_, SqL.of upd_same⟩, fun D hD => ?_⟩⟩
      have npD : p ≠ D := ne_of_none upd_same hD
      refine lc_list (xs := ats.map V.int) (fun i H' => H' D = some (.lst (((ats.take i).map fun z => isV (.str (("x" : Str) ++ (toString z : Str)))).map V.bl)) ∧ H' p = some (.lst (ats.map V.int))) ?_ (fun i H' _ hP => SqL.of hP.2) (fun i x H6 hx hP => ?_) (fun H6 hP => ?_)
      · exact ⟨upd_same, by rw [upd_ne npD]; exact upd_same⟩
      · obtain ⟨hD1, hp1⟩ := hP
        rw [List.getElem?_map] at hx
        cases hy : ats[i]? with
        | none =>
          rw [hy] at hx
          cases hx
        | some y =>
          rw [hy] at hx
          cases hx
          have yy := List.all_eq_true.mp ats_ok y (List.mem_of_getElem? hy)
          obtain ⟨y1, y2, y3⟩ := of_decide_eq_true yy
          refine ⟨rfl, tyes ?_⟩
          refine ⟨_, rfl, y, rfl, log9 y1, _, _, rfl, rfl, Nat.le_trans (Nat.add_le_add (Nat.le_refl 1) y2) (by decide), ?_⟩
          refine ⟨.str (("x" : Str) ++ (toString y : Str)), rfl, .inr (.inr (.inl ⟨_, rfl, by omega⟩)), fun H7 m7 => ?_⟩
          refine ⟨_, m7 _ _ hD1, lt_line' ?_, ?_, ?_⟩
          · rw [List.length_map, List.length_map, List.length_take]
            have := lt_of_get hy
            have : ats.length = 3 := rfl
            omega
          · rw [upd_same, take_next hy, List.map_append, List.map_append]
            rfl
          · rw [upd_ne npD]
            exact m7 _ _ hp1
      · obtain ⟨hD1, hp1⟩ := hP
        rw [List.length_map, List.take_length] at hD1
        refine ⟨by show 3 ≤ sizeLine; decide, fun p2 h6 => ?_⟩
        have hD2 : ∀ o, (upd H6 p2 o) D = some (.lst ((ats.map fun z => isV (.str (("x" : Str) ++ (toString z : Str)))).map V.bl)) := fun o => by
          rw [upd_ne (ne_of_none hD1 h6)]
          exact hD1
        refine ⟨_, .list ([true, true, false].map PyData.bool), .lst (SqL.of (hD2 _)) (dp_bls _), .lst (SqL.of upd_same) (dp_bls [true, true, false]), by decide +kernel, by decide +kernel, ?_⟩
        have fin : PyData.eqv (.list ((ats.map fun z => isV (.str (("x" : Str) ++ (toString z : Str)))).map PyData.bool)) (.list ([true, true, false].map PyData.bool)) = true := by decide +kernel
        rw [fin]
        exact q _
end

theorem all_mk {l : PySem.W.OpenLaw} {w : World} {K : PySem.W.Frag} {h : Heap} {mg : Str → Option Value} {fa : Addr} (X : K.In h) (G : h.Ns mainGlobals mg) (hfa : mg "law" = some (.ref fa))
    {f_is_integer : Addr} {od_is_integer an_is_integer : Option Addr} {sl_is_integer : Array (Option Value)} {oc_is_integer kV_is_integer dc_is_integer pm_is_integer cd_is_integer ct_is_integer : Value} {f_is_variable : Addr} {od_is_variable an_is_variable : Option Addr} {sl_is_variable : Array (Option Value)} {oc_is_variable kV_is_variable dc_is_variable pm_is_variable cd_is_variable ct_is_variable : Value} {f__law_dice : Addr} {od__law_dice an__law_dice : Option Addr} {sl__law_dice : Array (Option Value)} {oc__law_dice kV__law_dice dc__law_dice pm__law_dice cd__law_dice ct__law_dice : Value} {f__law_roll : Addr} {od__law_roll an__law_roll : Option Addr} {sl__law_roll : Array (Option Value)} {oc__law_roll kV__law_roll dc__law_roll pm__law_roll cd__law_roll ct__law_roll : Value} {f__law_pick : Addr} {od__law_pick an__law_pick : Option Addr} {sl__law_pick : Array (Option Value)} {oc__law_pick kV__law_pick dc__law_pick pm__law_pick cd__law_pick ct__law_pick : Value} {f__law_row : Addr} {od__law_row an__law_row : Option Addr} {sl__law_row : Array (Option Value)} {oc__law_row kV__law_row dc__law_row pm__law_row cd__law_row ct__law_row : Value} {f_law : Addr} {od_law an_law : Option Addr} {sl_law : Array (Option Value)} {oc_law kV_law dc_law pm_law cd_law ct_law : Value} {t_VARIABLE : Tok}
    (a_is_integer : PySem.W.nsIn K mainGlobals "is_integer" = some (some (.ref f_is_integer)))
    (l_is_integer : K.lookup f_is_integer = some ⟨oc_is_integer, od_is_integer, .func (PySem.W.fnOf "is_integer" "is_integer" (defArgs s_is_integer) (defBody s_is_integer) (defScope s_is_integer) .none kV_is_integer dc_is_integer pm_is_integer an_is_integer cd_is_integer ct_is_integer), sl_is_integer⟩)
    (c_is_integer : PySem.W.codeIn K cd_is_integer "is_integer" = true)
    (k_is_integer : PySem.W.keepIn K (.ref f_is_integer) = true)
    (a_is_variable : PySem.W.nsIn K mainGlobals "is_variable" = some (some (.ref f_is_variable)))
    (l_is_variable : K.lookup f_is_variable = some ⟨oc_is_variable, od_is_variable, .func (PySem.W.fnOf "is_variable" "is_variable" (defArgs s_is_variable) (defBody s_is_variable) (defScope s_is_variable) .none kV_is_variable dc_is_variable pm_is_variable an_is_variable cd_is_variable ct_is_variable), sl_is_variable⟩)
    (c_is_variable : PySem.W.codeIn K cd_is_variable "is_variable" = true)
    (k_is_variable : PySem.W.keepIn K (.ref f_is_variable) = true)
    (a__law_dice : PySem.W.nsIn K mainGlobals "_law_dice" = some (some (.ref f__law_dice)))
    (l__law_dice : K.lookup f__law_dice = some ⟨oc__law_dice, od__law_dice, .func (PySem.W.fnOf "_law_dice" "_law_dice" (defArgs s__law_dice) (defBody s__law_dice) (defScope s__law_dice) .none kV__law_dice dc__law_dice pm__law_dice an__law_dice cd__law_dice ct__law_dice), sl__law_dice⟩)
    (c__law_dice : PySem.W.codeIn K cd__law_dice "_law_dice" = true)
    (k__law_dice : PySem.W.keepIn K (.ref f__law_dice) = true)
    (a__law_roll : PySem.W.nsIn K mainGlobals "_law_roll" = some (some (.ref f__law_roll)))
    (l__law_roll : K.lookup f__law_roll = some ⟨oc__law_roll, od__law_roll, .func (PySem.W.fnOf "_law_roll" "_law_roll" (defArgs s__law_roll) (defBody s__law_roll) (defScope s__law_roll) .none kV__law_roll dc__law_roll pm__law_roll an__law_roll cd__law_roll ct__law_roll), sl__law_roll⟩)
    (c__law_roll : PySem.W.codeIn K cd__law_roll "_law_roll" = true)
    (k__law_roll : PySem.W.keepIn K (.ref f__law_roll) = true)
    (a__law_pick : PySem.W.nsIn K mainGlobals "_law_pick" = some (some (.ref f__law_pick)))
    (l__law_pick : K.lookup f__law_pick = some ⟨oc__law_pick, od__law_pick, .func (PySem.W.fnOf "_law_pick" "_law_pick" (defArgs s__law_pick) (defBody s__law_pick) (defScope s__law_pick) .none kV__law_pick dc__law_pick pm__law_pick an__law_pick cd__law_pick ct__law_pick), sl__law_pick⟩)
    (c__law_pick : PySem.W.codeIn K cd__law_pick "_law_pick" = true)
    (k__law_pick : PySem.W.keepIn K (.ref f__law_pick) = true)
    (a__law_row : PySem.W.nsIn K mainGlobals "_law_row" = some (some (.ref f__law_row)))
    (l__law_row : K.lookup f__law_row = some ⟨oc__law_row, od__law_row, .func (PySem.W.fnOf "_law_row" "_law_row" (defArgs s__law_row) (defBody s__law_row) (defScope s__law_row) .none kV__law_row dc__law_row pm__law_row an__law_row cd__law_row ct__law_row), sl__law_row⟩)
    (c__law_row : PySem.W.codeIn K cd__law_row "_law_row" = true)
    (k__law_row : PySem.W.keepIn K (.ref f__law_row) = true)
    (a_law : PySem.W.nsIn K mainGlobals "law" = some (some (.ref f_law)))
    (l_law : K.lookup f_law = some ⟨oc_law, od_law, .func (PySem.W.fnOf "law" "law" (defArgs s_law) (defBody s_law) (defScope s_law) .none kV_law dc_law pm_law an_law cd_law ct_law), sl_law⟩)
    (c_law : PySem.W.codeIn K cd_law "law" = true)
    (k_law : PySem.W.keepIn K (.ref f_law) = true)
    (z_abs : PySem.W.nsIn K mainGlobals "abs" = some none)
    (z_all : PySem.W.nsIn K mainGlobals "all" = some none)
    (z_bool : PySem.W.nsIn K mainGlobals "bool" = some none)
    (z_int : PySem.W.nsIn K mainGlobals "int" = some none)
    (z_isinstance : PySem.W.nsIn K mainGlobals "isinstance" = some none)
    (z_len : PySem.W.nsIn K mainGlobals "len" = some none)
    (z_max : PySem.W.nsIn K mainGlobals "max" = some none)
    (z_min : PySem.W.nsIn K mainGlobals "min" = some none)
    (z_range : PySem.W.nsIn K mainGlobals "range" = some none)
    (z_repr : PySem.W.nsIn K mainGlobals "repr" = some none)
    (z_str : PySem.W.nsIn K mainGlobals "str" = some none)
    (g_VARIABLE : PySem.W.nsIn K mainGlobals "VARIABLE" = some (some (.str "x" t_VARIABLE))) :
    ∃ fd : FuncData, (∀ (s : Shared) (v : Value), BindsTo s fd ⟨[v], []⟩ [("_law_script", v)]) ∧ ∀ base : Heap, K.In base → base.Ns mainGlobals mg → FnOkG l.prog w K mg base CX0 4 fa fd ["_law_script"] (sp_law K) := by
  have e := hfa.symm.trans (PySem.W.mg_of X G a_law)
  cases e
  have T : Txt K mg := ⟨PySem.W.mg_none_of X G z_abs, PySem.W.mg_none_of X G z_all, PySem.W.mg_none_of X G z_bool, PySem.W.mg_none_of X G z_int, PySem.W.mg_none_of X G z_isinstance, PySem.W.mg_none_of X G z_len, PySem.W.mg_none_of X G z_max, PySem.W.mg_none_of X G z_min, PySem.W.mg_none_of X G z_range, PySem.W.mg_none_of X G z_repr, PySem.W.mg_none_of X G z_str, ⟨_, PySem.W.mg_of X G g_VARIABLE, ⟨_, rfl⟩⟩⟩
  refine ⟨PySem.W.fnOf "law" "law" (defArgs s_law) (defBody s_law) (defScope s_law) .none kV_law dc_law pm_law an_law cd_law ct_law, fun s v => .of_eq rfl, fun base _ _ => ?_⟩
  have F_is_integer := fun_mk (st := s_is_integer) l_is_integer c_is_integer k_is_integer
  have C_is_integer := Cal.of F_is_integer (PySem.W.mg_of X G a_is_integer) (F_is_integer.binds (ps := ["value"]) fun _ _ _ _ _ _ us hl => match us, hl with | [_], _ => rfl) (ok_is_integer (P := l.prog) (w := w) (base := base) T F_is_integer)
  have F_is_variable := fun_mk (st := s_is_variable) l_is_variable c_is_variable k_is_variable
  have C_is_variable := Cal.of F_is_variable (PySem.W.mg_of X G a_is_variable) (F_is_variable.binds (ps := ["value"]) fun _ _ _ _ _ _ us hl => match us, hl with | [_], _ => rfl) (ok_is_variable (P := l.prog) (w := w) (base := base) T F_is_variable)
  have F__law_dice := fun_mk (st := s__law_dice) l__law_dice c__law_dice k__law_dice
  have C__law_dice := Cal.of F__law_dice (PySem.W.mg_of X G a__law_dice) (F__law_dice.binds (ps := ["_law_script", "_law_spot"]) fun _ _ _ _ _ _ us hl => match us, hl with | [_, _], _ => rfl) (ok__law_dice (P := l.prog) (w := w) (base := base) T F__law_dice)
  have F__law_roll := fun_mk (st := s__law_roll) l__law_roll c__law_roll k__law_roll
  have C__law_roll := Cal.of F__law_roll (PySem.W.mg_of X G a__law_roll) (F__law_roll.binds (ps := ["_law_dice_here", "_law_total"]) fun _ _ _ _ _ _ us hl => match us, hl with | [_, _], _ => rfl) (ok__law_roll (P := l.prog) (w := w) (base := base) T F__law_roll)
  have F__law_pick := fun_mk (st := s__law_pick) l__law_pick c__law_pick k__law_pick
  have C__law_pick := Cal.of F__law_pick (PySem.W.mg_of X G a__law_pick) (F__law_pick.binds (ps := ["_law_dice_here", "_law_items"]) fun _ _ _ _ _ _ us hl => match us, hl with | [_, _], _ => rfl) (ok__law_pick (P := l.prog) (w := w) (base := base) T C__law_roll F__law_pick)
  have F__law_row := fun_mk (st := s__law_row) l__law_row c__law_row k__law_row
  have C__law_row := Cal.of F__law_row (PySem.W.mg_of X G a__law_row) (F__law_row.binds (ps := ["_law_dice_here"]) fun _ _ _ _ _ _ us hl => match us, hl with | [_], _ => rfl) (ok__law_row (P := l.prog) (w := w) (base := base) T C__law_pick F__law_row)
  have F_law := fun_mk (st := s_law) l_law c_law k_law
  exact ok_law (P := l.prog) (w := w) (base := base) T C_is_integer C_is_variable C__law_dice C__law_row F_law
end My

open PySem PySem.W PyProof.Rows in
set_option maxRecDepth 100000 in
set_option maxHeartbeats 0 in
theorem PySem.Challenge.cw_fromparts_k02_variables_and_integers_jud_holds : PySem.Challenge.rw_fromparts_k02_variables_and_integers_jud.Holds := by
  w_on; o_law; k_head; (case hw => w_witness2)
  k_fill
  refine My.walk_ofG (l := PySem.Challenge.rw_fromparts_k02_variables_and_integers_jud) (k := 4) (x := "_law_script") (sp := My.sp_law) rfl rfl ⟨rfl, by decide, by decide⟩ (fun w h Y => PySem.W.kIn_of Y) ?F (fun _ _ a ns hl hS => ⟨a, ns, rfl, hS, hl, fun _ => rfl⟩)
  case F =>
    intro w mg fa h KX G hmg
    refine' My.all_mk KX G hmg ?a_is_integer ?l_is_integer ?c_is_integer ?k_is_integer ?a_is_variable ?l_is_variable ?c_is_variable ?k_is_variable ?a__law_dice ?l__law_dice ?c__law_dice ?k__law_dice ?a__law_roll ?l__law_roll ?c__law_roll ?k__law_roll ?a__law_pick ?l__law_pick ?c__law_pick ?k__law_pick ?a__law_row ?l__law_row ?c__law_row ?k__law_row ?a_law ?l_law ?c_law ?k_law ?z_abs ?z_all ?z_bool ?z_int ?z_isinstance ?z_len ?z_max ?z_min ?z_range ?z_repr ?z_str ?g_VARIABLE
    (case a_is_integer => k_is)
    (case l_is_integer => k_is)
    (case c_is_integer => k_is)
    (case k_is_integer => k_is)
    (case a_is_variable => k_is)
    (case l_is_variable => k_is)
    (case c_is_variable => k_is)
    (case k_is_variable => k_is)
    (case a__law_dice => k_is)
    (case l__law_dice => k_is)
    (case c__law_dice => k_is)
    (case k__law_dice => k_is)
    (case a__law_roll => k_is)
    (case l__law_roll => k_is)
    (case c__law_roll => k_is)
    (case k__law_roll => k_is)
    (case a__law_pick => k_is)
    (case l__law_pick => k_is)
    (case c__law_pick => k_is)
    (case k__law_pick => k_is)
    (case a__law_row => k_is)
    (case l__law_row => k_is)
    (case c__law_row => k_is)
    (case k__law_row => k_is)
    (case a_law => k_is)
    (case l_law => k_is)
    (case c_law => k_is)
    (case k_law => k_is)
    (case z_abs => k_is)
    (case z_all => k_is)
    (case z_bool => k_is)
    (case z_int => k_is)
    (case z_isinstance => k_is)
    (case z_len => k_is)
    (case z_max => k_is)
    (case z_min => k_is)
    (case z_range => k_is)
    (case z_repr => k_is)
    (case z_str => k_is)
    (case g_VARIABLE => k_is)

