import PyProof.Rows.All
import Wide.All
import OpenK.AllK
import Wide.FinOn
import HandS.ForMost
import HandS.IsInst
import PyProof.ListStr
import PyProof.CallFns
import PyProof.Rows.RuleB_pow
import PySem.Challenge.RW_fromparts_k01_words_judged
set_option Elab.async false
set_option linter.all false
set_option maxRecDepth 100000
set_option maxHeartbeats 2000000
namespace My
open PySem PySem.Spec PyProof.Rows L2 TL
/-! ### defs called where no repr is under way: what A.guards says is handed down -/
structure FnOkG (P : Program) (w : World) (K : PySem.W.Frag) (mg : Str → Option Value) (base : Heap) (CX : CXT) (k : Nat) (f : Addr) (fd : FuncData) (ps : List Str) (sp : Sp) : Prop where
  arity : ∀ vs H Q E, sp vs H Q E → vs.length = ps.length
  go : ∀ (B : Around) (fr : List Env) (t : Shared) (H : Hp) (ar : Args) (us : List Value) (vs : List V) (Q : VK) (E : XK), Room k B → B.guards = some [] → Env0 P w K mg base B fr t H → BindsTo t fd ar (ps.zip us) → Vals vs us → sp vs H Q E →
    codeAny (model P w) B (.call (.ref f) ar) (CR CX fr P w H t Q E) t
theorem FnOkG.lift {P : Program} {w : World} {K : PySem.W.Frag} {mg : Str → Option Value} {base : Heap} {CX : CXT} {k : Nat} {f : Addr} {fd : FuncData} {ps : List Str} {sp : Sp}
    (F : FnOk P w K mg base CX k f fd ps sp) : FnOkG P w K mg base CX k f fd ps sp := ⟨F.len, fun B fr t H ar us vs Q E hr _ => F.run B fr t H ar us vs Q E hr⟩
section
variable {P : Program} {w : World} {K : PySem.W.Frag} {mg : Str → Option Value} {base : Heap}
theorem _root_.L2.Fun.okG {CX : CXT} {x qual : Str} {st : Stmt} {f : Addr} {fd : FuncData} {N ps : List Str} {k : Nat} {sp : Sp} (F : Fun K x qual st f fd) (S : FnScope N ps (defScope st)) (ar : ∀ vs H Q E, sp vs H Q E → vs.length = ps.length)
    (body : ∀ (cv : Value) (B : Around) (fr : List Env) (t : Shared) (H : Hp) (vs : List V) (Q : VK) (E : XK), Room k (B.deeper (envOfC qual (defScope st) t.heap.objs.size f cv)) → (B.deeper (envOfC qual (defScope st) t.heap.objs.size f cv)).guards = some [] → sp vs H Q E →
      ∃ r, PSs (cxOf CX P w K mg base N qual (defScope st) f cv B fr t H E).nox (defBody st) r ∧ r { nx := fun _ H' => Q .non H', rt := Q } (start N vs) H) : FnOkG P w K mg base CX (k + 1) f fd ps sp := by
  obtain ⟨oc, od, kV, doc, pm, an, cv, ct, osl, rfl, found, isCode⟩ := F.ex
  refine ⟨ar, fun B fr t H args us vs Q E room still env binds vals wish => ?_⟩
  have there : K.In t.heap := env.mod.kin.keeps (fun b o e => (env.bs b o e).1)
  have noLim : t.heap.NoLimit := env.mod.nolimit.keeps (fun b o e => (env.bs b o e).1)
  have kinds : ∀ y ∈ ps.zip us, (defScope st).names.lookup y.1 = some .local ∨ ((defScope st).names.lookup y.1 = some .cell ∧ ((cellsFrom (t.heap.objs.size + 1) (defScope st).names []).lookup y.1).isSome = true) := by
    rintro ⟨n, v⟩ hy
    exact (S.par n (List.of_mem_zip hy).1).imp id fun q => ⟨q, PySem.W.cellsFrom_some _ _ _ (.inl q)⟩
  refine codeAny_call_function room.depth (there _ _ found)
    rfl S.co S.gen rfl (PySem.W.codeRec_of there isCode) (binds _ _ _ _
      (wpAny_newFunctionEnv_cells S.kind kinds fun env' eq t1 start1 => ?_))
  subst eq
  refine ⟨noLim.keeps start1.toInCall.keep, codeAny_func ?_⟩
  obtain ⟨r, runs, ends⟩ := body cv B fr t H vs Q E (room.deeper _) still wish
  refine wpAny_mono (runs.nox.run [] t1 (start N vs) H _ (inv_start S room.hd env (ar _ _ _ _ wish) vals start1) ends) ?_ fun _ _ z => z
  intro fl t2 got
  cases fl with
  | ret u =>
    obtain ⟨v, σ', H', J, rv, q⟩ := got
    exact ⟨v, H', J.os, J.bare, J.base, J.hok, rv, q⟩
  | next =>
    obtain ⟨σ', H', J, q⟩ := got
    exact ⟨V.non, H', J.os, J.bare, J.base, J.hok, rfl, q⟩
  | brk => exact got.choose_spec.choose_spec.2.elim
  | cont => exact got.choose_spec.choose_spec.2.elim
end
/-! ### defs by their promises -/
structure Cal (P : Program) (w : World) (K : PySem.W.Frag) (mg : Str → Option Value) (base : Heap) (x : Str) (k : Nat) (ps : List Str) (sp : Sp) : Prop where
  ex : ∃ f fd, FnOkG P w K mg base CX0 k f fd ps sp ∧ mg x = some (.ref f) ∧ PySem.W.keepIn K (.ref f) = true ∧ Binds K fd ps []
theorem Cal.of {P : Program} {w : World} {K : PySem.W.Frag} {mg : Str → Option Value} {base : Heap} {x q : Str} {k : Nat} {ps : List Str} {sp : Sp} {st : Stmt} {f : Addr} {fd : FuncData}
    (F : Fun K x q st f fd) (hm : mg x = some (.ref f)) (hb : Binds K fd ps []) (ok : FnOkG P w K mg base CX0 k f fd ps sp) : Cal P w K mg base x k ps sp := ⟨f, fd, ok, hm, F.kp, hb⟩
section
variable {X : Cx} {k : Nat} {f : Addr} {fd : FuncData} {ps : List Str} {sp : Sp} {ds : List Value} {dvs : List V} {E : XK} {CX : CXT}
/-- the callee runs, no repr under way -/
theorem run_fnG {pins : List (Addr × Obj)} {σ : L2.St} {H : Hp} {s : Shared} {Q : VK} {us : List Value} {vs : List V} (F : FnOkG X.prog X.w X.K X.mg X.base CX k f fd ps sp) (room : Room k X.A) (still : X.A.guards = some [])
    (binds : Binds X.K fd ps ds) (dv : Vals dvs ds) (pass : Passes CX X E) (I : Inv X pins σ H s) (rel : Vals vs us) (wish : sp (vs ++ dvs) H Q E) : wpAny (model X.prog X.w) X.A (call (.ref f) us) (EP X pins σ Q) X.xe s := by
  have both := rel.append dv
  have len : (us ++ ds).length = ps.length := both.length.symm.trans (F.arity _ _ _ _ wish)
  have ran := F.go X.A X.stack s H ⟨us, []⟩ (us ++ ds) (vs ++ dvs) Q E room still I.env0 (binds s us I.kIn len) both wish
  refine wpAny_call (codeAny_mono ran ?_)
  intro r s' h
  match r, h with
  | .error e, h => exact pass pins σ H s e s' I h
  | .ok (.ret u), h => exact I.after h
  | .ok .next, h => exact False.elim h
  | .ok .brk, h => exact False.elim h
  | .ok .cont, h => exact False.elim h
end
section
variable {X : Cx} {x : Str} {k : Nat} {ps : List Str} {sp : Sp} {e : Expr} {es : List Expr} {t : TA} {p pos : Pos}
theorem pe_callC (C : Cal X.prog X.w X.K X.mg X.base x k ps sp) (room : Room k X.A) (still : X.A.guards = some []) (hg : Gl X x) (ha : PA X (e :: es) t) (hdb : (x == ("__debug__" : Str)) = false := by decide)
    (he : starEach (e :: es) X.env = (false, eval e X.env) :: starEach es X.env := by rfl) (hpl : (backTo pos (starEach es X.env)).any (·.1) = false := by rfl) :
    PE X (.Call (.Name x p) (e :: es) [] pos) (tCall sp [] E0 t) := by
  obtain ⟨f, fd, ok, hm, kp, hb⟩ := C.ex
  refine ⟨fun pins s σ H Q I h => wpAny_Call_Name_kw (ld_glob I hg hm ?_ hdb)⟩
  have args := thn (ha.run pos pins s σ H _ I h) (Q' := fun us s1 => X.K.In s1.heap ∧ wpAny (model X.prog X.w) X.A (call (.ref f) us) (EP X pins σ Q) X.xe s1) fun us s1 ⟨vs, H1, I1, r, q⟩ =>
    ⟨I1.kIn, run_fnG ok room still hb .nil pass0 I1 r q⟩
  exact PySem.W.callWith_K (h₀ := X.base) I.ok.mod.kin kp args he hpl
theorem pe_globE {x : Str} {v : V} (hg : Gl X x) (h : ∃ u, X.mg x = some u ∧ RelV v u) (hd : (x == ("__debug__" : Str)) = false := by decide) : PE X (.Name x pos) (tC v) := by
  obtain ⟨u, hm, r⟩ := h
  exact pe_glob hg hm r hd
theorem op_powW : OpR X (binaryOp .Pow) (rI (fun i j => 0 ≤ j ∧ (Builtin.Int.intBits i : Int) * j ≤ 2 ^ 27) fun i j => .int (i ^ j.toNat)) := opI fun _ _ _ _ _ _ _ hc q => PyProof.Rows.pow_int hc.1 hc.2 q
theorem call_repr_bl : CallR X (.builtin "repr") (fun xs H Q => ∃ b, xs = [.bl b] ∧ Q (.str (if b then "True" else "False")) H) := by
  intro pins s σ H xs us Q I r h
  obtain ⟨b, rfl, q⟩ := h
  obtain ⟨u, rfl, r1⟩ := vals1 r
  cases r1
  exact PySem.P.repr_of_bool ⟨.str _, H, I.tok _, ⟨_, rfl⟩, q⟩
def sgnV (x : Str) : List V := x.cps.toList.map fun c => V.str ⟨#[c]⟩
theorem vals_signs : ∀ (l : List Nat) (ys : List Value), ys.length = l.length → (∀ (j : Nat) (v : Value), ys[j]? = some v → ∃ c u, l[j]? = some c ∧ v = .str ⟨#[c]⟩ u) → Vals (l.map fun c => V.str ⟨#[c]⟩) ys
  | [], [], _, _ => .nil
  | [], _ :: _, h, _ => by simp at h
  | _ :: _, [], h, _ => by simp at h
  | c :: l, y :: ys, h, f => by
    obtain ⟨c', u, e1, e2⟩ := f 0 y rfl
    have e3 : c = c' := Option.some.inj e1
    subst e3
    exact .cons ⟨u, e2⟩ (vals_signs l ys (by simpa using h) fun j v e => f (j + 1) v e)
theorem call_list_text (hc : X.calm = true) : CallR X (.type "list") (fun xs H Q => ∃ x : Str, xs = [.str x] ∧ x.length ≤ sizeLine ∧ ∀ l, H l = none → Q (.ref l) (upd H l (.lst (sgnV x)))) := by
  intro pins s σ H xs us Q I r h
  obtain ⟨x, rfl, hz, q⟩ := h
  obtain ⟨u, rfl, t, rfl⟩ := vals1 r
  refine call_list_str (hn := hz) (I.ok.hd hc) x t fun h' tk acc' c' hk hS' hacc => ?_
  have hv : Vals (sgnV x) acc'.toList := vals_signs _ _ (by simp [hacc.1]) fun j v e => by
    obtain ⟨c, u, h1, h2⟩ := hacc.2 j v (by simpa using e)
    exact ⟨c, u, by simpa using h1, h2⟩
  exact ⟨.ref s.heap.objs.size, _, I.laid (t' := tk) hk (Nat.le_refl _) (show ObjOk X.prog X.w _ h' _ (.lst (sgnV x)) from ⟨by simp [sgnV]; exact hz, acc'.toList, c', hv, by simpa using hS'⟩), rfl, q _ (I.hok.fresh (Nat.le_refl _))⟩
end
/-! ### heaps: all stands but the dice -/
def Ext (d : Addr) (H H' : Hp) : Prop := ∀ a o, a ≠ d → H a = some o → H' a = some o
theorem Ext.refl {d : Addr} (H : Hp) : Ext d H H := fun _ _ _ h => h
theorem Ext.trans {d : Addr} {H H1 H2 : Hp} (a : Ext d H H1) (b : Ext d H1 H2) : Ext d H H2 := fun x o n h => b x o n (a x o n h)
theorem Ext.new {d : Addr} {H H1 : Hp} (a : Ext d H H1) {p : Addr} {o : HO} (h : H1 p = none) : Ext d H (upd H1 p o) := fun x u n e => by
  rw [upd_ne (ne_of_none (a x u n e) h)]
  exact a x u n e
theorem Ext.same {d : Addr} {H H' : Hp} (h : Same H H') : Ext d H H' := fun a o _ e => h a o e
theorem Ext.set {d : Addr} {H : Hp} {o : HO} : Ext d H (upd H d o) := fun a u n e => by
  rw [upd_ne n]
  exact e
theorem Ext.mut {d : Addr} {H H1 : Hp} (a : Ext d H H1) {p : Addr} {o : HO} (h : H p = none) : Ext d H (upd H1 p o) := fun x u n e => by
  rw [upd_ne (ne_of_none e h)]
  exact a x u n e
theorem Ext.none {d : Addr} {H H' : Hp} (e : Ext d H H') {l : Addr} (n : l ≠ d) (h : H' l = Option.none) : H l = Option.none := by
  cases q : H l with
  | none => rfl
  | some o =>
    rw [e l o n q] at h
    cases h
theorem _root_.L2.Same.new {H H1 : Hp} (a : Same H H1) {p : Addr} {o : HO} (h : H1 p = none) : Same H (upd H1 p o) := fun x u e => by
  rw [upd_ne (ne_of_none (a x u e) h)]
  exact a x u e
theorem _root_.L2.Same.mut {H H1 : Hp} (a : Same H H1) {p : Addr} {o : HO} (h : H p = none) : Same H (upd H1 p o) := fun x u e => by
  rw [upd_ne (ne_of_none e h)]
  exact a x u e
def IsDice (H : Hp) (d : Addr) : Prop := ∃ a b c : Int, H d = some (.lst [.int a, .int b, .int c])
theorem IsDice.some {H : Hp} {d : Addr} (h : IsDice H d) : ∃ o, H d = Option.some o := ⟨_, h.choose_spec.choose_spec.choose_spec⟩
theorem IsDice.ne {H : Hp} {d l : Addr} (h : IsDice H d) (n : H l = none) : l ≠ d := by
  obtain ⟨o, e⟩ := h.some
  exact fun z => by
    rw [z, e] at n
    cases n
theorem IsDice.new {H : Hp} {d p : Addr} {o : HO} (h : IsDice H d) (n : H p = none) : IsDice (upd H p o) d := by
  have hn := h.ne n
  obtain ⟨a, b, c, e⟩ := h
  exact ⟨a, b, c, by rw [upd_ne hn.symm]; exact e⟩
theorem IsDice.mut {H : Hp} {d p : Addr} {o : HO} (h : IsDice H d) (n : p ≠ d) : IsDice (upd H p o) d := by
  obtain ⟨a, b, c, e⟩ := h
  exact ⟨a, b, c, by rw [upd_ne n.symm]; exact e⟩
theorem IsDice.same {H H' : Hp} {d : Addr} (h : IsDice H d) (s : Same H H') : IsDice H' d := by
  obtain ⟨a, b, c, e⟩ := h
  exact ⟨a, b, c, s _ _ e⟩
/-- where lists stand -/
theorem sql_ext {K : PySem.W.Frag} {H H' : Hp} {d a : Addr} {xs : List V} (e : Ext d H H') (n : a ≠ d) (h : SqL K H a xs) : SqL K H' a xs := by
  rcases h with (h | ⟨o, h⟩) | h
  · exact .inl (.inl (e _ _ n h))
  · exact .inl (.inr ⟨o, e _ _ n h⟩)
  · exact .inr h
theorem lt_line {n : Nat} (h : n ≤ 1000000) : n ≤ sizeLine := Nat.le_trans h (by decide)
theorem lt_line' {n : Nat} (h : n < 1000000) : n < sizeLine := Nat.lt_of_lt_of_le h (by decide)
/-! ### the dice's promises -/
/-- a new dice; the list of the script, an index -/
def sp__law_dice (K : PySem.W.Frag) : Sp := fun vs H Q _ => ∃ (a : Addr) (ns : List Int) (i : Int), vs = [.ref a, .int i] ∧ SqL K H a (ns.map V.int) ∧ 0 ≤ i ∧ i < 64 ∧
  ∀ d o, H d = none → IsDice (upd H d o) d → Q (.ref d) (upd H d o)
def sp__law_roll (_ : PySem.W.Frag) : Sp := fun vs H Q _ => ∃ (d : Addr) (n : Int), vs = [.ref d, .int n] ∧ IsDice H d ∧ 0 < n ∧ n < 1073741824 ∧
  ∀ r H', 0 ≤ r → r < n → Ext d H H' → IsDice H' d → Q (.int r) H'
def sp__law_pick (K : PySem.W.Frag) : Sp := fun vs H Q _ => ∃ (d l : Addr) (xs : List V), vs = [.ref d, .ref l] ∧ IsDice H d ∧ SqL K H l xs ∧ l ≠ d ∧ xs ≠ [] ∧ xs.length < 1000000 ∧
  ∀ x H', x ∈ xs → Ext d H H' → IsDice H' d → Q x H'
def sp__law_some (K : PySem.W.Frag) : Sp := fun vs H Q _ => ∃ (d l : Addr) (xs : List V) (n : Int), vs = [.ref d, .ref l, .int n] ∧ IsDice H d ∧ SqL K H l xs ∧ l ≠ d ∧ xs.length < 1000000 ∧ 0 ≤ n ∧
  ∀ p ys H', (∀ y ∈ ys, y ∈ xs) → ys.length ≤ xs.length → H p = none → p ≠ d → H' p = some (.lst ys) → Ext d H H' → IsDice H' d → Q (.ref p) H'
/-! ### a comprehension over a text -/
theorem lc_txt {x : Str} {g : TG} {tt : TT} {te : TE} {vs : List Nat} {σ : L2.St} {H1 : Hp} {D : Addr} {Qd : Hp → Prop} (Pv : Nat → Hp → Prop) (h0 : Pv 0 (upd H1 D (.lst [])))
    (hs : ∀ i c H, x.cps.toList[i]? = some c → Pv i H → g (.str ⟨#[c]⟩) (wipe σ vs) H fun σ2 H2 => wipe σ2 vs = wipe σ vs ∧ tt σ2 H2 fun b H3 =>
      if b = true then te σ2 H3 fun y H4 => ∃ acc, H4 D = some (.lst acc) ∧ acc.length < sizeLine ∧ Pv (i + 1) (upd H4 D (.lst (acc ++ [y]))) else Pv (i + 1) H3) (hd : ∀ H, Pv x.cps.toList.length H → Qd H) :
    ∃ W : Nat → Nat → Hp → Prop, (∃ m, W 0 m (upd H1 D (.lst []))) ∧ ∀ i m H, W i m H →
      ((Its x).stop i H ∧ Qd H) ∨ ((Its x).go i H ∧ ∃ Nx : Hp → Prop, (∀ H', Nx H' → ∃ m', m' < m ∧ W (i + 1) m' H') ∧ ∀ v H', (Its x).yld i H v H' → g v (wipe σ vs) H' fun σ2 H2 => wipe σ2 vs = wipe σ vs ∧ tt σ2 H2 fun b H3 =>
        if b = true then te σ2 H3 fun y H4 => ∃ acc, H4 D = some (.lst acc) ∧ acc.length < sizeLine ∧ Nx (upd H4 D (.lst (acc ++ [y]))) else Nx H3) := by
  refine ⟨fun i m H => m = x.cps.size - i ∧ i ≤ x.cps.size ∧ Pv i H, ⟨x.cps.size, by simp, Nat.zero_le _, h0⟩, ?_⟩
  rintro i m H ⟨rfl, hi, p⟩
  by_cases hlt : i < x.cps.size
  · refine .inr ⟨hlt, Pv (i + 1), fun H' p' => ⟨x.cps.size - (i + 1), by omega, rfl, hlt, p'⟩, fun v H' y => ?_⟩
    obtain ⟨e, c, ec, ev⟩ := y
    subst e ev
    exact hs i c _ (by simpa using ec) p
  · have e : i = x.cps.size := by omega
    exact .inl ⟨by show x.cps.size ≤ i; omega, hd H (by rw [e] at p; simpa using p)⟩
/-- flat data -/
theorem shaped_flat {ds : List PyData} (h : ∀ d ∈ ds, d.canLay0 = true ∧ d.depth = 0) : SeqAt.shaped (.list ds) = true ∧ SeqAt.shaped (.tuple ds) = true := by
  have a : ∀ ds : List PyData, (∀ d ∈ ds, d.canLay0 = true ∧ d.depth = 0) → PyData.canLayAll0 ds = true ∧ PyData.depthAll ds = 0 := by
    intro ds
    induction ds with
    | nil => intro _; exact ⟨rfl, rfl⟩
    | cons d r ih =>
      intro h
      have h1 := h d (List.mem_cons_self ..)
      have h2 := ih fun x hx => h x (List.mem_cons_of_mem _ hx)
      exact ⟨by rw [PyData.canLayAll0, h1.1, h2.1]; rfl, by rw [PyData.depthAll, h1.2, h2.2]; rfl⟩
  obtain ⟨a1, a2⟩ := a ds h
  constructor <;> (unfold SeqAt.shaped; rw [PyData.canLay0, PyData.depth, a1, a2]; rfl)
theorem strOk_ascii {x : Str} (h : ∀ c ∈ x.cps.toList, c < 128) : PyData.strOk x = true := by
  unfold PyData.strOk
  rw [← Array.all_toList]
  exact List.all_eq_true.mpr fun c hc => by
    have := h c hc
    simp
    omega
/-! ### comprehensions whose parts speak of the place where they stand -/
section
variable {X : Cx}
abbrev Dep (α : Type) := Shared → Hp → Addr → List (Str × Addr) → List Addr → α
abbrev Dep.at {α : Type} (t : Dep α) (X : Cx) : α := t X.s_0 X.H_0 0 [] []
theorem pe_lcD {elt tg iter : Expr} {ifs : List Expr} {scope : Scope} {own : List (Str × Nat)} {pos : Pos} {wi : TI} {g : Dep TG} {tt : Dep TT} {te : Dep TE} (hc : X.calm = true) (hN : X.N.Nodup) (hi : PI X tg iter wi) (ok : BlkOk X.N X.env.scope scope own)
    (hg : ∀ (s : Shared) (H : Hp) (C : Addr) (cl : List (Str × Addr)) (fp : List Addr), PG (X.blk s H scope (compEnvC scope cl C X.env) fp) tg (g s H C cl fp)) (ht : ∀ (s : Shared) (H : Hp) (C : Addr) (cl : List (Str × Addr)) (fp : List Addr), PTs (X.blk s H scope (compEnvC scope cl C X.env) fp) ifs (tt s H C cl fp))
    (he : ∀ (s : Shared) (H : Hp) (C : Addr) (cl : List (Str × Addr)) (fp : List Addr), PE (X.blk s H scope (compEnvC scope cl C X.env) fp) elt (te s H C cl fp)) (hs : ∀ x, foldedSetIterable iter X.env x = pure x := by intro _; rfl)
    (eg : ∀ s H C cl fp, g s H C cl fp = g.at X := by intros; rfl) (et : ∀ s H C cl fp, tt s H C cl fp = tt.at X := by intros; rfl) (ee : ∀ s H C cl fp, te s H C cl fp = te.at X := by intros; rfl) :
    PE X (.ListComp elt [⟨tg, iter, ifs, 0⟩] scope pos) (tLc wi (g.at X) (tt.at X) (te.at X) (own.map (·.2))) :=
  pe_lc hc hN hi ok (fun s H C cl fp => eg s H C cl fp ▸ hg s H C cl fp) (fun s H C cl fp => et s H C cl fp ▸ ht s H C cl fp) (fun s H C cl fp => ee s H C cl fp ▸ he s H C cl fp) hs
theorem ps_setLcD {i : Nat} {y : Str} {py : Pos} {elt tg iter : Expr} {ifs : List Expr} {scope : Scope} {own : List (Str × Nat)} {pos spos : Pos} {wi : TI} {g : Dep TG} {tt : Dep TT} {te : Dep TE} (hc : X.calm = true) (hN : X.N.Nodup) (hy : X.N[i]? = some y) (hyl : X.env.scope.names.lookup y = some .local)
    (hsw : swapsWith (.ListComp elt [⟨tg, iter, ifs, 0⟩] scope pos) (some (.Name y py)) spos.line X.env = pure true) (hi : PI X tg iter wi) (ok : BlkOk X.N X.env.scope scope own)
    (hg : ∀ (s : Shared) (H : Hp) (C : Addr) (cl : List (Str × Addr)) (fp : List Addr), PG (X.blk s H scope (compEnvC scope cl C X.env) fp) tg (g s H C cl fp)) (ht : ∀ (s : Shared) (H : Hp) (C : Addr) (cl : List (Str × Addr)) (fp : List Addr), PTs (X.blk s H scope (compEnvC scope cl C X.env) fp) ifs (tt s H C cl fp))
    (he : ∀ (s : Shared) (H : Hp) (C : Addr) (cl : List (Str × Addr)) (fp : List Addr), PE (X.blk s H scope (compEnvC scope cl C X.env) fp) elt (te s H C cl fp)) (hs : ∀ x, foldedSetIterable iter X.env x = pure x := by intro _; rfl)
    (eg : ∀ s H C cl fp, g s H C cl fp = g.at X := by intros; rfl) (et : ∀ s H C cl fp, tt s H C cl fp = tt.at X := by intros; rfl) (ee : ∀ s H C cl fp, te s H C cl fp = te.at X := by intros; rfl) :
    PS X (.Assign [.Name y py] (.ListComp elt [⟨tg, iter, ifs, 0⟩] scope pos) spos) (tAsg (tLc wi (g.at X) (tt.at X) (te.at X) (own.map (·.2))) (gName i)) :=
  ps_setLc hc hN hy hyl hsw hi ok (fun s H C cl fp => eg s H C cl fp ▸ hg s H C cl fp) (fun s H C cl fp => et s H C cl fp ▸ ht s H C cl fp) (fun s H C cl fp => ee s H C cl fp ▸ he s H C cl fp) hs
end
theorem tyes {σ : L2.St} {H : Hp} {A B : Hp → Prop} (h : A H) : tYes σ H (fun b H3 => if b = true then A H3 else B H3) := by
  show (if true = true then A H else B H)
  exact iteT h
/-- the law -/
def sp_law (K : PySem.W.Frag) : Sp := fun vs H Q _ => ∃ (a : Addr) (ns : List Int), vs = [.ref a] ∧ SqL K H a (ns.map V.int) ∧ ns.length ≤ 63 ∧ ∀ H', Q (.bl true) H'
theorem same_ext {H H1 H2 : Hp} {d : Addr} (s : Same H H1) (n : H d = none) (e : Ext d H1 H2) : Same H H2 := fun a o h => e a o (ne_of_none h n) (s a o h)
/-- how many cells the law looks at -/
theorem cells_ok {n : Nat} (h : n ≤ 63) : ∀ j : Int, j = (if (if (n : Int) < 8 then (n : Int) else 8) > 1 then (if (n : Int) < 8 then (n : Int) else 8) else 1) → 1 ≤ j ∧ j ≤ 8 := by
  intro j e
  by_cases h1 : (n : Int) < 8
  · rw [if_pos h1] at e
    by_cases h2 : (n : Int) > 1
    · rw [if_pos h2] at e
      omega
    · rw [if_neg h2] at e
      omega
  · rw [if_neg h1] at e
    rw [if_pos (by decide)] at e
    omega
theorem mem_strs {m : List Str} {x : V} (h : x ∈ m.map V.str) : ∃ y ∈ m, x = .str y := by
  obtain ⟨y, h1, h2⟩ := List.mem_map.mp h
  exact ⟨y, h1, h2.symm⟩
theorem dp_signs {K : PySem.W.Frag} {H : Hp} : ∀ l : List Nat, DpAll K H (l.map fun c => V.str ⟨#[c]⟩) (l.map fun c => PyData.str ⟨#[c]⟩)
  | [] => .nil
  | _ :: l => .cons (.str _) (dp_signs l)
theorem dp_bls {K : PySem.W.Frag} {H : Hp} : ∀ l : List Bool, DpAll K H (l.map V.bl) (l.map PyData.bool)
  | [] => .nil
  | _ :: l => .cons (.bl _) (dp_bls l)
theorem take_next {α : Type} {l : List α} {i : Nat} {x : α} (h : l[i]? = some x) : l.take (i + 1) = l.take i ++ [x] := by
  rw [List.take_add_one, h]
  rfl
theorem lt_of_get {α : Type} {l : List α} {i : Nat} {x : α} (h : l[i]? = some x) : i < l.length := (List.getElem?_eq_some_iff.mp h).1
theorem lex1 (a b : Nat) : decide ([a] < [b]) = decide (a < b) := by
  by_cases h : a < b
  · rw [decide_eq_true h]
    exact decide_eq_true (List.Lex.rel h)
  · rw [decide_eq_false h]
    refine decide_eq_false fun z => ?_
    cases z with
    | rel h' => exact h h'
    | cons h' => cases h'
/-! ### the law's call -/
section
variable {P : Program} {w : World} {K : PySem.W.Frag} {mg mb : Str → Option Value} {CX : CXT} {k : Nat} {fa a : Addr} {fd : FuncData} {x : Str} {sp : Sp} {t : Shared} {items : List Value} {ns : List Int}
/-- the law's call at an abstract heap that knows nothing but, perhaps, the script -/
theorem call_from (inK : K.In t.heap) (glob : t.heap.Ns mainGlobals mg) (blt : t.heap.Ns builtinsNs mb) (bltBoot : ∀ x : Str, x ≠ "__name__" → mb x = bootBuiltins x) (noLim : t.heap.NoLimit) (noGens : t.gens = #[])
    (script : t.heap.get? a = some { cls := .type "list", data := .seq items.toArray }) (room : Room k callerA)
    (F : ∀ base : Heap, K.In base → base.Ns mainGlobals mg → FnOkG P w K mg base CX k fa fd [x] sp) (binds : ∀ (s : Shared) (u : Value), BindsTo s fd ⟨[u], []⟩ [(x, u)])
    (none' : ∀ H e s', CX [] H t (fun _ _ _ => False) e s' → False)
    (H : Hp) (only : Only H) (fine : HOk P w H t.heap) (atA : ∀ b, H b ≠ none → b = a ∧ K.lookup a = none) (wish : sp [.ref a] H (fun v _ => v = .bl true) fun _ _ _ => False) :
    codeAny (model P w) callerA (.call (.ref fa) ⟨[.ref a], []⟩) (fun r s' => r = .ok (.ret (.bool true)) ∧ OldK t.heap s'.heap ∧ s'.os = t.os ∧ AllBare s'.gens) t := by
  -- what is no list stays in sight when the script is hidden
  have free : ∀ {b : Addr} {o : Obj}, t.heap.get? b = some o → (b = a → K.lookup a ≠ none ∨ ∃ es ep, o.data = .dict es ep) → H b = none := by
    intro b o e h
    by_cases q : H b = none
    · exact q
    · obtain ⟨rfl, kn⟩ := atA b q
      rcases h rfl with h | ⟨es, ep, h⟩
      · exact absurd kn h
      · rw [script] at e
        cases e
        cases h
  have names : ∀ {b : Addr} {m : Str → Option Value}, t.heap.Ns b m → (hidT t.heap H).Ns b m := by
    rintro b m ⟨o, es, ep, e, d, r⟩
    exact ⟨o, es, ep, hidT_get e (free e fun _ => .inr ⟨es, ep, d⟩), d, r⟩
  have inB : K.In (hidT t.heap H) := fun b o e => hidT_get (inK b o e) (free (inK b o e) fun q => .inl (by
    subst q
    rw [e]
    exact fun z => nomatch z))
  have module : Mod K mg (hidT t.heap H) := by
    obtain ⟨mc, l1, l2⟩ := noLim
    exact ⟨inB, names glob, ⟨mb, names blt, bltBoot⟩, ⟨mc, names l1, l2⟩⟩
  have ground : Env0 P w K mg (hidT t.heap H) callerA [] t H := by
    refine ⟨rfl, module, fun b o e => of_hidT e, ?_, trivial, ?_, fine, .of_eq noGens⟩
    · exact Nat.le_of_eq (hidT_size t.heap H)
    · intro b hb
      cases hb
  have ran := (F _ inB (names glob)).go callerA [] t H ⟨[.ref a], []⟩ [.ref a] [.ref a] (fun v _ => v = .bl true) (fun _ _ _ => False) room rfl ground (binds t (.ref a)) (.cons rfl .nil) wish
  refine codeAny_mono ran ?_
  intro r s' h
  match r, h with
  | .error e, h => exact (none' H e s' h).elim
  | .ok .next, h => exact False.elim h
  | .ok .brk, h => exact False.elim h
  | .ok .cont, h => exact False.elim h
  | .ok (.ret u), h =>
    obtain ⟨v, H', os, bare, un, fine', rel, rfl⟩ := h
    cases (show u = Value.bool true from rel)
    refine ⟨rfl, OldK.of_keep ?_, os, bare⟩
    intro b o e
    cases q : H b with
    | none => exact un.keep b o e q (fun z => nomatch z) (fun z => nomatch z)
    | some u =>
      rcases only b with z | ⟨ob, xs, z⟩
      · exact absurd (z.symm.trans q) (fun y => nomatch y)
      · have before := (fine b _ z).1
        have behind := (fine' b _ (un.frzs b ob _ z)).1
        rw [e] at before
        cases before
        exact behind
theorem law_callG (inK : K.In t.heap) (glob : t.heap.Ns mainGlobals mg) (blt : t.heap.Ns builtinsNs mb) (bltBoot : ∀ x : Str, x ≠ "__name__" → mb x = bootBuiltins x) (noLim : t.heap.NoLimit) (noGens : t.gens = #[])
    (script : t.heap.get? a = some { cls := .type "list", data := .seq items.toArray }) (areInts : IntsAre items ns) (short : ns.length ≤ sizeLine) (room : Room k callerA)
    (F : ∀ base : Heap, K.In base → base.Ns mainGlobals mg → FnOkG P w K mg base CX k fa fd [x] sp) (binds : ∀ (s : Shared) (u : Value), BindsTo s fd ⟨[u], []⟩ [(x, u)])
    (none' : ∀ H e s', CX [] H t (fun _ _ _ => False) e s' → False) (wish : ∀ H : Hp, Only H → SqL K H a (ns.map V.int) → sp [.ref a] H (fun v _ => v = .bl true) fun _ _ _ => False) :
    codeAny (model P w) callerA (.call (.ref fa) ⟨[.ref a], []⟩) (fun r s' => r = .ok (.ret (.bool true)) ∧ OldK t.heap s'.heap ∧ s'.os = t.os ∧ AllBare s'.gens) t := by
  have vals := vals_ints areInts
  cases kn : K.lookup a with
  | some o =>
    have o' := inK a o kn
    rw [script] at o'
    cases o'
    have o1 : Only fun _ => none := fun _ => .inl rfl
    refine call_from inK glob blt bltBoot noLim noGens script room F binds none' (fun _ => none) o1 (fun _ _ z => nomatch z) (fun _ z => absurd rfl z) (wish _ o1 (.inr ⟨_, items.toArray, _, kn, rfl, rfl, rfl, ?_, by simpa using vals⟩))
    rw [List.size_toArray, areInts.length]
    exact short
  | none =>
    let H : Hp := fun b => if b = a then some (.frz { cls := .type "list", data := .seq items.toArray } (.lst (ns.map V.int))) else none
    have here : H a = some (.frz { cls := .type "list", data := .seq items.toArray } (.lst (ns.map V.int))) := if_pos rfl
    have there : ∀ b, b ≠ a → H b = none := fun b hb => if_neg hb
    have o1 : Only H := fun b => if hb : b = a then .inr ⟨_, _, hb ▸ here⟩ else .inl (there b hb)
    refine call_from inK glob blt bltBoot noLim noGens script room F binds none' H o1 (fun b u z => ?_) (fun b z => ?_) (wish _ o1 (.inl (.inr ⟨_, here⟩)))
    · by_cases hb : b = a
      · subst hb
        rw [here] at z
        cases z
        exact ⟨script, by rw [List.length_map]; exact short, items, _, vals, script⟩
      · rw [there b hb] at z
        cases z
    · by_cases hb : b = a
      · exact ⟨hb, kn⟩
      · exact absurd (there b hb) z
end
theorem walk_ofG {l : PySem.W.OpenLaw} {k : Nat} {q : Program} {loose : List Str} {XP : (Str → Option Value) → Heap → Prop} {YP : World → Heap → Prop} {d : DefRec} {K : Params → PySem.W.Frag} {sp : PySem.W.Frag → Sp} {x : Str}
    (most : l.most = some 63) (plain : d.params.defaults = []) (room : Room k callerA) (hY : ∀ (w : World) (h : Heap), YP w h → (K w.params).In h)
    (F : ∀ (w : World) (mg : Str → Option Value) (fa : Addr) (h : Heap), (K w.params).In h → h.Ns mainGlobals mg → mg d.name = some (.ref fa) →
      ∃ fd : FuncData, (∀ (s : Shared) (u : Value), BindsTo s fd ⟨[u], []⟩ [(x, u)]) ∧ ∀ base : Heap, (K w.params).In base → base.Ns mainGlobals mg → FnOkG l.prog w (K w.params) mg base CX0 k fa fd [x] (sp (K w.params)))
    (wish : ∀ (K : PySem.W.Frag) (H : Hp) (a : Addr) (ns : List Int), ns.length ≤ 63 → SqL K H a (ns.map V.int) → sp K [.ref a] H (fun v _ => v = .bl true) fun _ _ _ => False) :
    PySem.W.WalkO q loose XP YP l.row.toRowW d [] (fun f vs => PySem.call f vs) := by
  refine Att.attach_call most plain ?_
  intro w s₀ s₁ mg mb fa o pm cd doc a vs ns G Y _ _ _ named script areInts len gens
  have inK := hY w _ Y
  obtain ⟨fd, binds, ok⟩ := F w mg fa _ inK G.T.g named
  exact law_callG inK G.T.g G.T.b G.T.builtins G.T.nolimit gens script areInts (Nat.le_trans len (by decide)) room ok binds (fun _ _ _ z => z) fun H _ hS => wish _ H a ns len hS
/-! ### repr of data -/
section
variable {X : Cx}
theorem call_repr_data (hG : X.A.guards = some []) (hu : X.A.units + 64 < cLine) : CallR X (.builtin "repr") (fun xs H Q => ∃ (p : Addr) (d : PyData), xs = [.ref p] ∧ Dp X.K H (.ref p) d ∧ d.showable = true ∧ d.hasDict = false ∧ d.depth ≤ 20 ∧ d.shown.length ≤ sizeLine ∧ Q (.str d.shown) H) := by
  intro pins s σ H xs us Q I r h
  obtain ⟨p, d, rfl, hd, h1, h2, h3, h4, q⟩ := h
  obtain ⟨u, rfl, r1⟩ := vals1 r
  cases r1
  obtain ⟨as, rd⟩ := Dp.reads I d (.ref p) (.ref p) hd rfl
  exact repr_of_reads' (h₀ := s.heap) rd h1 (fun z => by rw [h2] at z; cases z) hG (by omega) (fun _ _ e => e) (fun h' u tk k => ⟨.str d.shown, H, I.kept k, ⟨u, rfl⟩, q⟩) h4
end

def topS (i : Nat) : Stmt := PySem.Challenge.pw_fromparts_k01_words_judged.main.body.getD i (.Pass ⟨0, 0, 0, 0⟩)
abbrev s_is_word : Stmt := topS 4
theorem sc_is_word : FnScope ["value", "letter"] ["value"] (defScope s_is_word) := ⟨rfl, rfl, rfl, by decide +kernel, rfl, by decide +kernel, by decide +kernel⟩
abbrev s__law_dice : Stmt := topS 6
theorem sc__law_dice : FnScope ["_law_script", "_law_spot", "_law_cell", "_law_great", "_law_blend"] ["_law_script", "_law_spot"] (defScope s__law_dice) := ⟨rfl, rfl, rfl, by decide +kernel, rfl, by decide +kernel, by decide +kernel⟩
abbrev s__law_roll : Stmt := topS 7
theorem sc__law_roll : FnScope ["_law_dice_here", "_law_total", "_law_found", "_law_one", "_law_two"] ["_law_dice_here", "_law_total"] (defScope s__law_roll) := ⟨rfl, rfl, rfl, by decide +kernel, rfl, by decide +kernel, by decide +kernel⟩
abbrev s__law_pick : Stmt := topS 8
theorem sc__law_pick : FnScope ["_law_dice_here", "_law_items"] ["_law_dice_here", "_law_items"] (defScope s__law_pick) := ⟨rfl, rfl, rfl, by decide +kernel, rfl, by decide +kernel, by decide +kernel⟩
abbrev s__law_some : Stmt := topS 9
theorem sc__law_some : FnScope ["_law_dice_here", "_law_items", "_law_size", "_law_left", "_law_turn"] ["_law_dice_here", "_law_items", "_law_size"] (defScope s__law_some) := ⟨rfl, rfl, rfl, by decide +kernel, rfl, by decide +kernel, by decide +kernel⟩
abbrev s__law_is_word : Stmt := topS 10
theorem sc__law_is_word : FnScope ["_law_value", "_law_one"] ["_law_value"] (defScope s__law_is_word) := ⟨rfl, rfl, rfl, by decide +kernel, rfl, by decide +kernel, by decide +kernel⟩
abbrev s__law_some_value : Stmt := topS 11
theorem sc__law_some_value : FnScope ["_law_dice_here", "_law_signs", "_law_some_here", "_law_odd", "_law_draw", "_law_turn"] ["_law_dice_here"] (defScope s__law_some_value) := ⟨rfl, rfl, rfl, by decide +kernel, rfl, by decide +kernel, by decide +kernel⟩
abbrev s_law : Stmt := topS 12
theorem sc_law : FnScope ["_law_script", "_law_spot", "_law_dice_here", "_law_turn", "_law_value", "_law_told", "_law_one"] ["_law_script"] (defScope s_law) := ⟨rfl, rfl, rfl, by decide +kernel, rfl, by decide +kernel, by decide +kernel⟩
structure Txt (K : PySem.W.Frag) (mg : Str → Option Value) : Prop where
  b_abs : mg "abs" = none
  b_all : mg "all" = none
  b_int : mg "int" = none
  b_isinstance : mg "isinstance" = none
  b_len : mg "len" = none
  b_list : mg "list" = none
  b_max : mg "max" = none
  b_min : mg "min" = none
  b_range : mg "range" = none
  b_repr : mg "repr" = none
  b_str : mg "str" = none
  g_MAX_LETTERS : ∃ u, mg "MAX_LETTERS" = some u ∧ RelV (.int 8) u
  g_GAP : ∃ u, mg "GAP" = some u ∧ RelV (.str "?") u
  g_VARIABLE : ∃ u, mg "VARIABLE" = some u ∧ RelV (.str "x") u
theorem intBits_le (x : Int) {n : Nat} (h : x.natAbs < 2 ^ n) (h0 : 0 < n) : Builtin.Int.intBits x ≤ n := by
  have e := PySem.Flt.log2_lt_of h0 h
  unfold Builtin.Int.intBits
  split <;> omega
section
variable {P : Program} {w : World} {K : PySem.W.Frag} {mg : Str → Option Value} {base : Heap}
theorem ok__law_roll (T : Txt K mg) {f : Addr} {fd : FuncData} (F : Fun K "_law_roll" "_law_roll" s__law_roll f fd) : FnOkG P w K mg base CX0 1 f fd ["_law_dice_here", "_law_total"] (sp__law_roll K) := by
  have nd := sc__law_roll.nd
  refine F.okG sc__law_roll (fun vs H Q E h => ?_) (fun cdv A outer s H vs Q E hr hG h => ?_)
  · obtain ⟨d, n, rfl, _⟩ := h
    rfl
  · obtain ⟨d, n, rfl, ⟨a, b, c, hd⟩, h0, h1, q⟩ := h
    refine ⟨_, (pss_cons (ps_if (pt_cmpR op_gt (pe_ix ix_list (pv 0) pe_int (fun _ _ => rfl)) pe_int (nomark _)) (pss_cons (ps_set (i := 2) nd rfl (.inl rfl) (pe_op op_mod (pe_callTy call_int1 (by rfl) T.b_int (by decide +kernel) (pa_cons (pe_ix ix_list (pv 0) pe_int (fun _ _ => rfl)) pa_nil)) (pv 1)))
      (pss_cons (ps_asg (pe_op op_fdiv (pe_ix ix_list (pv 0) pe_int (fun _ _ => rfl)) (pv 1)) (pg_sub (pv 0) pe_int set_list))
      (pss_one (ps_ret (pv 2))))) pss_nil)
      (pss_cons (ps_asg (pe_op op_add (pe_ix ix_list (pv 0) pe_int (fun _ _ => rfl)) pe_int) (pg_sub (pv 0) pe_int set_list))
      (pss_cons (ps_set (i := 3) nd rfl (.inl rfl) (pe_op op_mod (pe_callTy call_int1 (by rfl) T.b_int (by decide +kernel) (pa_cons (pe_op op_add (pe_ix ix_list (pv 0) pe_int (fun _ _ => rfl)) (pe_op op_mul pe_int (pe_ix ix_list (pv 0) pe_int (fun _ _ => rfl)))) pa_nil)) pe_int))
      (pss_cons (ps_set (i := 4) nd rfl (.inl rfl) (pe_op op_add (pe_op op_mul (pe_op op_mod (pe_callTy call_int1 (by rfl) T.b_int (by decide +kernel) (pa_cons (pe_op op_mul (pv 3) (pv 3)) pa_nil)) pe_int) (pv 3)) (pe_op op_mul pe_int (pe_ix ix_list (pv 0) pe_int (fun _ _ => rfl)))))
      (pss_cons (ps_set (i := 4) nd rfl (.inl rfl) (pe_op op_mod (pe_callTy call_int1 (by rfl) T.b_int (by decide +kernel) (pa_cons (pv 4) pa_nil)) pe_int))
      (pss_one (ps_ret (pe_op op_mod (pe_callTy call_int1 (by rfl) T.b_int (by decide +kernel) (pa_cons (pe_op op_fdiv (pv 4) pe_int) pa_nil)) (pv 1))))))))), ?_⟩
    have g0 : SqL K H d [.int a, .int b, .int c] := SqL.of hd
    refine ⟨.ref d, rfl, d, _, 0, _, rfl, rfl, g0, rfl, a, 0, rfl, rfl, _, rfl, ?_⟩
    refine ite2 (fun _ => ?_) (fun _ => ?_)
    · refine ⟨.ref d, rfl, d, _, 0, _, rfl, rfl, g0, rfl, .inl ⟨a, rfl, .int n, rfl, a, n, rfl, rfl, h0, ?_⟩⟩
      refine ⟨.ref d, rfl, d, _, 0, _, rfl, rfl, g0, rfl, .int n, rfl, a, n, rfl, rfl, ⟨h0, h1⟩, ?_⟩
      refine ⟨.ref d, rfl, d, _, 0, 0, rfl, rfl, hd, rfl, ?_⟩
      refine ⟨.int (a % n), rfl, ?_⟩
      exact q _ _ (Int.emod_nonneg _ (by omega)) (Int.emod_lt_of_pos _ h0) Ext.set ⟨_, _, _, upd_same⟩
    · refine ⟨.ref d, rfl, d, _, 2, _, rfl, rfl, g0, rfl, c, 1, rfl, rfl, ?_⟩
      refine ⟨.ref d, rfl, d, _, 2, 2, rfl, rfl, hd, rfl, ?_⟩
      have g2 : SqL K (upd H d (.lst [.int a, .int b, .int (c + 1)])) d [.int a, .int b, .int (c + 1)] := SqL.of upd_same
      refine ⟨.ref d, rfl, d, _, 1, _, rfl, rfl, g2, rfl, .ref d, rfl, d, _, 2, _, rfl, rfl, g2, rfl, 998244293, c + 1, rfl, rfl, .inl ⟨by decide, by decide⟩, b, _, rfl, rfl, ?_⟩
      refine .inl ⟨_, rfl, _, _, rfl, rfl, (show (0 : Int) < 2305843009213693951 by decide), ?_⟩
      have x0 : 0 ≤ (b + 998244293 * (c + 1)) % 2305843009213693951 := Int.emod_nonneg _ (by decide)
      have x1 : (b + 998244293 * (c + 1)) % 2305843009213693951 < 2305843009213693951 := Int.emod_lt_of_pos _ (by decide)
      have xm : -(2 ^ 64 : Int) < (b + 998244293 * (c + 1)) % 2305843009213693951 ∧ (b + 998244293 * (c + 1)) % 2305843009213693951 < 2 ^ 64 := ⟨by omega, by omega⟩
      refine ⟨_, rfl, _, rfl, _, _, rfl, rfl, .inl xm, .inl ⟨_, rfl, _, _, rfl, rfl, (show (0 : Int) < 2305843009213693921 by decide), ?_⟩⟩
      refine ⟨_, rfl, _, _, rfl, rfl, .inr xm, ?_⟩
      refine ⟨.ref d, rfl, d, _, 2, _, rfl, rfl, g2, rfl, 9413, c + 1, rfl, rfl, .inl ⟨by decide, by decide⟩, _, _, rfl, rfl, ?_⟩
      refine ⟨_, rfl, .inl ⟨_, rfl, _, _, rfl, rfl, (show (0 : Int) < 2305843009213693669 by decide), ?_⟩⟩
      refine ⟨_, rfl, _, _, rfl, rfl, ⟨(show (0 : Int) < 8192 by decide), (show (8192 : Int) < 1073741824 by decide)⟩, .inl ⟨_, rfl, .int n, rfl, _, n, rfl, rfl, h0, ?_⟩⟩
      exact q _ _ (Int.emod_nonneg _ (by omega)) (Int.emod_lt_of_pos _ h0) Ext.set ⟨_, _, _, upd_same⟩
theorem ok__law_pick (T : Txt K mg) (c__law_roll : Cal P w K mg base "_law_roll" 1 ["_law_dice_here", "_law_total"] (sp__law_roll K)) {f : Addr} {fd : FuncData} (F : Fun K "_law_pick" "_law_pick" s__law_pick f fd) : FnOkG P w K mg base CX0 2 f fd ["_law_dice_here", "_law_items"] (sp__law_pick K) := by
  have nd := sc__law_pick.nd
  refine F.okG sc__law_pick (fun vs H Q E h => ?_) (fun cdv A outer s H vs Q E hr hG h => ?_)
  · obtain ⟨d, l, xs, rfl, _⟩ := h
    rfl
  · obtain ⟨d, l, xs, rfl, hd, hl, ne, xne, hz, q⟩ := h
    refine ⟨_, (pss_one (ps_ret (pe_ix ix_list (pv 1) (pe_callC c__law_roll (hr.mono (by decide)) hG rfl (pa_cons (pv 0) (pa_cons (pe_callB call_len (by rfl) T.b_len (by decide +kernel) (pa_cons (pv 1) pa_nil)) pa_nil))) (fun _ _ => rfl)))), ?_⟩
    have h1 : 0 < xs.length := List.length_pos_iff.mpr xne
    refine ⟨.ref l, rfl, .ref d, rfl, .ref l, rfl, .ref l, xs.length, rfl, .inl ⟨xs, hl, rfl⟩, ?_⟩
    refine ⟨d, (xs.length : Int), rfl, hd, by omega, by omega, fun r H' r0 r1 e dd => ?_⟩
    have hr' : r.toNat < xs.length := by omega
    have er : r = (r.toNat : Int) := by omega
    refine ⟨l, xs, r, xs[r.toNat], rfl, rfl, sql_ext e ne hl, ?_, ?_⟩
    · have g := atI_nat (List.getElem?_eq_getElem hr')
      rw [← er] at g
      exact g
    · exact q _ _ (List.getElem_mem hr') e dd
end

section
variable {P : Program} {w : World} {K : PySem.W.Frag} {mg : Str → Option Value} {base : Heap}
theorem ok__law_dice (T : Txt K mg) {f : Addr} {fd : FuncData} (F : Fun K "_law_dice" "_law_dice" s__law_dice f fd) : FnOkG P w K mg base CX0 1 f fd ["_law_script", "_law_spot"] (sp__law_dice K) := by
  have nd := sc__law_dice.nd
  refine F.okG sc__law_dice (fun vs H Q E h => ?_) (fun cdv A outer s H vs Q E hr hG h => ?_)
  · obtain ⟨a, ns, i, rfl, _⟩ := h
    rfl
  · obtain ⟨a, ns, i', rfl, hS, hi0, hi, q⟩ := h
    obtain ⟨i, rfl⟩ := Int.eq_ofNat_of_zero_le hi0
    refine ⟨_, (pss_cons (ps_set (i := 2) nd rfl (.inl rfl) (pe_op op_add (pe_op op_mul pe_int (pv 1)) pe_int))
      (pss_cons (ps_if (pt_cmpR op_lt (pv 1) (pe_callB call_len (by rfl) T.b_len (by decide +kernel) (pa_cons (pv 0) pa_nil)) (nomark _)) (pss_one (ps_set (i := 2) nd rfl (.inl rfl) (pe_ix ix_list (pv 0) (pv 1) (fun _ _ => rfl)))) pss_nil)
      (pss_cons (ps_set (i := 3) nd rfl (.inl rfl) (pe_op op_mod (pe_callTy call_int1 (by rfl) T.b_int (by decide +kernel) (pa_cons (pe_callB call_abs (by rfl) T.b_abs (by decide +kernel) (pa_cons (pv 2) pa_nil)) pa_nil)) (pe_op op_powW (pe_op op_powW pe_int pe_int) pe_int)))
      (pss_cons (ps_set (i := 4) nd rfl (.inl rfl) (pe_op op_add (pe_op op_add (pe_op op_add (pe_op op_mul (pe_op op_mod (pe_callTy call_int1 (by rfl) T.b_int (by decide +kernel) (pa_cons (pv 3) pa_nil)) pe_int) pe_int) (pe_op op_mul pe_int (pv 1))) (pe_op op_mul pe_int (pe_callTy call_int1 (by rfl) T.b_int (by decide +kernel) (pa_cons (pe_cmpR op_lt (pv 2) pe_int (nomark _)) pa_nil)))) pe_int))
      (pss_one (ps_ret (pe_lst (pa_cons (pe_callB (call_max2 rfl) (by rfl) T.b_max (by decide +kernel) (pa_cons pe_int (pa_cons (pe_op op_sub (pv 3) (pe_op op_powW pe_int pe_int)) pa_nil))) (pa_cons (pe_op op_mod (pe_callTy call_int1 (by rfl) T.b_int (by decide +kernel) (pa_cons (pv 4) pa_nil)) pe_int) (pa_cons pe_int pa_nil)))))))))), ?_⟩
    refine ⟨.int i, rfl, _, _, rfl, rfl, .inl ⟨by decide, by decide⟩, _, _, rfl, rfl, ?_⟩
    refine ⟨.int i, rfl, .ref a, rfl, .ref a, _, rfl, .inl ⟨_, hS, rfl⟩, _, _, rfl, rfl, _, rfl, ?_⟩
    have p1 : (0 : Int) < (10 ^ 60) ^ 10 := by decide +kernel
    have p2 : (0 : Int) < 2305843009213693669 := by decide
    refine ite2 (fun hlt => ?_) (fun _ => ?_)
    · have hlt' : i < ns.length := by
        have := of_decide_eq_true hlt
        rw [List.length_map] at this
        omega
      refine ⟨.ref a, rfl, .int i, rfl, a, _, _, .int ns[i], rfl, rfl, hS, atI_nat (by rw [List.getElem?_map, List.getElem?_eq_getElem hlt']; rfl), ?_⟩
      refine ⟨_, rfl, _, rfl, .inl ⟨_, rfl, 10, 60, rfl, rfl, ⟨by decide, by decide +kernel⟩, _, 10, rfl, rfl, ⟨by decide, by decide +kernel⟩, _, _, rfl, rfl, p1, ?_⟩⟩
      refine ⟨_, rfl, .inl ⟨_, rfl, _, _, rfl, rfl, p2, _, _, rfl, rfl, .inr ⟨by decide, by decide⟩, .int i, rfl, _, _, rfl, rfl, .inl ⟨by decide, by decide⟩, _, _, rfl, rfl, ?_⟩⟩
      refine ⟨_, rfl, _, _, rfl, rfl, .inr ⟨_, rfl, _, _, rfl, rfl, .inl ⟨by decide, by decide⟩, _, _, rfl, rfl, _, _, rfl, rfl, ?_⟩⟩
      refine ⟨_, rfl, 10, 18, rfl, rfl, ⟨by decide, by decide +kernel⟩, _, _, rfl, rfl, _, _, rfl, _, rfl, .inl ⟨_, rfl, _, _, rfl, rfl, p2, by show 3 ≤ sizeLine; decide, fun p hp => q p _ hp ⟨_, _, _, upd_same⟩⟩⟩
    · refine ⟨_, rfl, _, rfl, .inl ⟨_, rfl, 10, 60, rfl, rfl, ⟨by decide, by decide +kernel⟩, _, 10, rfl, rfl, ⟨by decide, by decide +kernel⟩, _, _, rfl, rfl, p1, ?_⟩⟩
      refine ⟨_, rfl, .inl ⟨_, rfl, _, _, rfl, rfl, p2, _, _, rfl, rfl, .inr ⟨by decide, by decide⟩, .int i, rfl, _, _, rfl, rfl, .inl ⟨by decide, by decide⟩, _, _, rfl, rfl, ?_⟩⟩
      refine ⟨_, rfl, _, _, rfl, rfl, .inr ⟨_, rfl, _, _, rfl, rfl, .inl ⟨by decide, by decide⟩, _, _, rfl, rfl, _, _, rfl, rfl, ?_⟩⟩
      refine ⟨_, rfl, 10, 18, rfl, rfl, ⟨by decide, by decide +kernel⟩, _, _, rfl, rfl, _, _, rfl, _, rfl, .inl ⟨_, rfl, _, _, rfl, rfl, p2, by show 3 ≤ sizeLine; decide, fun p hp => q p _ hp ⟨_, _, _, upd_same⟩⟩⟩
end

theorem ixat {n : Nat} {r : Int} (h0 : 0 ≤ r) (h1 : r < n) : seqIndex? r n = some r.toNat := by
  have e : ixN n r = some r.toNat := by
    unfold ixN
    rw [if_pos h0, if_pos h1]
  exact (ixN_seq e).1
section
variable {P : Program} {w : World} {K : PySem.W.Frag} {mg : Str → Option Value} {base : Heap}
theorem ok__law_some (T : Txt K mg) (c__law_roll : Cal P w K mg base "_law_roll" 1 ["_law_dice_here", "_law_total"] (sp__law_roll K)) {f : Addr} {fd : FuncData} (F : Fun K "_law_some" "_law_some" s__law_some f fd) : FnOkG P w K mg base CX0 2 f fd ["_law_dice_here", "_law_items", "_law_size"] (sp__law_some K) := by
  have nd := sc__law_some.nd
  refine F.okG sc__law_some (fun vs H Q E h => ?_) (fun cdv A outer s H vs Q E hr hG h => ?_)
  · obtain ⟨d, l, xs, n, rfl, _⟩ := h
    rfl
  · obtain ⟨d, l, xs, n, rfl, hd, hl, ne, hz, n0, q⟩ := h
    refine ⟨_, (pss_cons (ps_set (i := 3) nd rfl (.inr rfl) (pe_callTy call_list_of (by rfl) T.b_list (by decide +kernel) (pa_cons (pv 1) pa_nil)))
      (pss_one (ps_ret (pe_lcD (own := [("_law_turn", 4)]) (by rfl) nd (pi_range1 (by rfl) T.b_range (pa_cons (pe_callB (call_min2 rfl) (by rfl) T.b_min (by decide +kernel) (pa_cons (pv 2) (pa_cons (pe_callB call_len (by rfl) T.b_len (by decide +kernel) (pa_cons (pv 3) pa_nil)) pa_nil))) pa_nil)) (blkOk_by (own := [("_law_turn", 4)]) (N := ["_law_dice_here", "_law_items", "_law_size", "_law_left", "_law_turn"]) (sc := (defScope s__law_some)) (by decide +kernel)) (fun _ _ _ _ _ => pg_name (i := 4) nd rfl (Or.inl rfl)) (fun _ _ _ _ _ => pts_nil) (fun _ _ _ _ _ => (pe_bm PySem.F.plainAttrs_list PySem.F.slot_list_pop PySem.F.type_list_pop mt_popAt (pv 3) (pa_cons (pe_callC c__law_roll (hr.mono (by decide)) hG rfl (pa_cons (pv 0) (pa_cons (pe_callB call_len (by rfl) T.b_len (by decide +kernel) (pa_cons (pv 3) pa_nil)) pa_nil))) pa_nil))))))), ?_⟩
    refine ⟨.ref l, rfl, l, xs, rfl, .inl hl, fun p hp => ?_⟩
    have nep : p ≠ d := hd.ne hp
    have e1 : Ext d H (upd H p (.lst xs)) := (Ext.refl H).new hp
    have d1 := hd.new (o := .lst xs) hp
    refine ⟨.int n, rfl, .ref p, rfl, .ref p, xs.length, rfl, .inl ⟨xs, SqL.of upd_same, rfl⟩, n, _, rfl, _, rfl, ?_, ?_, fun D hD => ?_⟩
    · by_cases h : (xs.length : Int) < n <;> simp only [h, if_true, if_false] <;> omega
    · by_cases h : (xs.length : Int) < n <;> simp only [h, if_true, if_false] <;> omega
    have neD : D ≠ d := d1.ne hD
    have npD : p ≠ D := fun z => by
      rw [← z, upd_same] at hD
      cases hD
    have hDH : H D = none := e1.none neD hD
    have hm : (if (xs.length : Int) < n then (xs.length : Int) else n).toNat ≤ xs.length := by
      by_cases h : (xs.length : Int) < n <;> simp only [h, if_true, if_false] <;> omega
    refine lc_range (lo := 0) (n := (if (xs.length : Int) < n then (xs.length : Int) else n).toNat)
      (fun i H' => ∃ left ys : List V, H' p = some (.lst left) ∧ H' D = some (.lst ys) ∧ left.length + i = xs.length ∧ ys.length = i ∧ (∀ y ∈ left, y ∈ xs) ∧ (∀ y ∈ ys, y ∈ xs) ∧ Ext d H H' ∧ IsDice H' d) ?_ (fun i H1 hi hP => ?_) (fun H1 hP => ?_)
    · exact ⟨xs, [], by rw [upd_ne npD]; exact upd_same, upd_same, by simp, rfl, fun _ h => h, fun _ h => (by cases h), e1.new hD, d1.mut neD⟩
    · obtain ⟨left, ys, hp1, hD1, el, ey, al, ay, e2, d2⟩ := hP
      refine ⟨rfl, tyes ?_⟩
      have l0 : 0 < left.length := by omega
      refine ⟨.ref p, rfl, .inl ⟨rfl, _, SqL.of hp1⟩, .ref d, rfl, .ref p, rfl, .ref p, left.length, rfl, .inl ⟨left, SqL.of hp1, rfl⟩, ?_⟩
      refine ⟨d, (left.length : Int), rfl, d2, by omega, by omega, fun r H2 r0 r1 e3 d3 => ?_⟩
      have hr' : r.toNat < left.length := by omega
      refine ⟨p, left, r, r.toNat, left[r.toNat], rfl, rfl, e3 _ _ nep hp1, by omega, by omega, ixat r0 r1, List.getElem?_eq_getElem hr', ?_⟩
      have hD2 : H2 D = some (.lst ys) := e3 _ _ neD hD1
      refine ⟨ys, by rw [upd_ne npD.symm]; exact hD2, lt_line' (by omega), left.eraseIdx r.toNat, ys ++ [left[r.toNat]], by rw [upd_ne npD]; exact upd_same, upd_same, ?_, ?_, ?_, ?_, ?_, ?_⟩
      · rw [List.length_eraseIdx_of_lt hr']
        omega
      · simp [ey]
      · exact fun y hy => al y (List.mem_of_mem_eraseIdx hy)
      · intro y hy
        rcases List.mem_append.mp hy with h | h
        · exact ay y h
        · rw [List.mem_singleton.mp h]
          exact al _ (List.getElem_mem hr')
      · exact ((e2.trans e3).mut hp).mut hDH
      · exact (d3.mut nep).mut neD
    · obtain ⟨left, ys, hp1, hD1, el, ey, al, ay, e2, d2⟩ := hP
      exact q D ys H1 ay (by omega) hDH neD hD1 e2 d2
end

def isLow (c : Nat) : Bool := decide (97 ≤ c) && decide (c ≤ 122)
def isW : V → Bool
  | .str x => (decide (1 ≤ x.length) && decide (x.length ≤ 8)) && x.cps.toList.all isLow
  | _ => false
/-- a value that the law makes -/
def ValW (K : PySem.W.Frag) (H : Hp) (v : V) : Prop := (∃ x : Str, v = .str x ∧ x.length ≤ 1000 ∧ ∀ c ∈ x.cps.toList, c < 128) ∨
  (∃ t, TyX K H v t ∧ PySem.W.kitOne K t (.type "str") = some false ∧ isW v = false)
def sp_is_word (K : PySem.W.Frag) : Sp := fun vs H Q _ => ∃ v, vs = [v] ∧ ValW K H v ∧ ∀ H', Same H H' → Q (.bl (isW v)) H'
def sp__law_is_word (K : PySem.W.Frag) : Sp := sp_is_word K
theorem alpha : ("abcdefghijklmnopqrstuvwxyz" : Str).cps.toList = List.range' 97 26 := by decide +kernel
theorem mem_alpha (c : Nat) : decide (c ∈ ("abcdefghijklmnopqrstuvwxyz" : Str).cps.toList) = isLow c := by
  rw [alpha]
  unfold isLow
  by_cases h : 97 ≤ c ∧ c ≤ 122
  · rw [decide_eq_true h.1, decide_eq_true h.2]
    exact decide_eq_true (List.mem_range'.mpr ⟨c - 97, by omega, by omega⟩)
  · have e : (decide (97 ≤ c) && decide (c ≤ 122)) = false := by
      cases h1 : decide (97 ≤ c) <;> cases h2 : decide (c ≤ 122) <;> first | rfl | exact absurd ⟨of_decide_eq_true h1, of_decide_eq_true h2⟩ h
    rw [e]
    refine decide_eq_false fun z => h ?_
    obtain ⟨i, h1, h2⟩ := List.mem_range'.mp z
    omega
theorem isW_str (x : Str) : isW (.str x) = ((decide (1 ≤ x.length) && decide (x.length ≤ 8)) && x.cps.toList.all isLow) := rfl
section
variable {P : Program} {w : World} {K : PySem.W.Frag} {mg : Str → Option Value} {base : Heap}
theorem ok_is_word (T : Txt K mg) {f : Addr} {fd : FuncData} (F : Fun K "is_word" "is_word" s_is_word f fd) : FnOkG P w K mg base CX0 1 f fd ["value"] (sp_is_word K) := by
  have nd := sc_is_word.nd
  refine F.okG sc_is_word (fun vs H Q E h => ?_) (fun cdv A outer s H vs Q E hr hG h => ?_)
  · obtain ⟨v, rfl, _⟩ := h
    rfl
  · obtain ⟨v, rfl, hv, q⟩ := h
    refine ⟨_, (pss_cons (ps_if (PW.pt (pw_or (pt_not (pt_val (pe_callB call_isi (by rfl) T.b_isinstance (by decide +kernel) (pa_cons (pv 0) (pa_cons (pe_bltn (v := .ty "str") (u := .type "str") (by rfl) T.b_str (by decide +kernel) rfl) pa_nil))))) (pw_or1 (pt_not (pt_chain op_le op_le pe_int (pe_callB call_len (by rfl) T.b_len (by decide +kernel) (pa_cons (pv 0) pa_nil)) (pe_globE rfl T.g_MAX_LETTERS)))))) (pss_one (ps_ret pe_bl)) pss_nil)
      (pss_one (ps_ret (pe_callB (cr_all rfl) (by rfl) T.b_all (by decide +kernel) (pa_cons (pe_lcD (own := [("letter", 1)]) (by rfl) nd (pi_str (pv 0)) (blkOk_by (own := [("letter", 1)]) (N := ["value", "letter"]) (sc := (defScope s_is_word)) (by decide +kernel)) (fun _ _ _ _ _ => pg_name (i := 1) nd rfl (Or.inl rfl)) (fun _ _ _ _ _ => pts_nil) (fun _ _ _ _ _ => (pe_chain op_le_str op_le_str pe_str (pv 1) pe_str))) pa_nil))))), ?_⟩
    rcases hv with ⟨x, rfl, hx, ha⟩ | ⟨t, ht, hk, hw⟩
    · have hx1 : x.length ≤ sizeLine := lt_line (by omega)
      have hxl : x.cps.toList.length = x.length := (len_tl x).symm
      refine ⟨.str x, rfl, .str x, .ty "str", .type "str", .type "str", true, rfl, .ty _, .base (.str x), kit_ty (by decide +kernel), true, rfl, ?_⟩
      refine iteF ?_
      refine ⟨.str x, rfl, .str x, x.length, rfl, ⟨hx1, rfl⟩, 1, (x.length : Int), rfl, rfl, _, rfl, ?_⟩
      refine ite2 (fun h1 => ?_) (fun h1 => ?_)
      · have h1' : 1 ≤ x.length := by have := of_decide_eq_true h1; omega
        refine ⟨(x.length : Int), 8, rfl, rfl, _, rfl, ?_⟩
        refine ite2 (fun h2 => ?_) (fun h2 => ?_)
        · have h2' : ¬ x.length ≤ 8 := fun z => by
            rw [decide_eq_true (show (x.length : Int) ≤ 8 by omega)] at h2
            cases h2
          have e : isW (.str x) = false := by rw [isW_str, decide_eq_false h2', Bool.and_false, Bool.false_and]
          have z := q H (Same.refl H)
          rw [e] at z
          exact z
        · have h2' : x.length ≤ 8 := by
            by_cases z : (x.length : Int) ≤ 8
            · omega
            · rw [decide_eq_false z] at h2
              exact absurd rfl h2
          refine ⟨.str x, rfl, x, rfl, fun D hD => lc_txt (fun i H' => H' D = some (.lst (((x.cps.toList.take i).map isLow).map V.bl)) ∧ Same H H') ?_ (fun i c H1 hc hP => ?_) (fun H1 hP => ?_)⟩
          · exact ⟨upd_same, (Same.refl H).mut hD⟩
          · obtain ⟨hD1, s1⟩ := hP
            refine ⟨rfl, tyes ?_⟩
            have fin : ∀ b, b = isLow c → ∃ acc, H1 D = some (.lst acc) ∧ acc.length < sizeLine ∧ ((upd H1 D (.lst (acc ++ [.bl b]))) D = some (.lst (((x.cps.toList.take (i + 1)).map isLow).map V.bl)) ∧ Same H (upd H1 D (.lst (acc ++ [.bl b])))) := by
              intro b e
              refine ⟨_, hD1, lt_line' ?_, ?_, s1.mut hD⟩
              · have := lt_of_get hc
                rw [List.length_map, List.length_map, List.length_take]
                omega
              · rw [upd_same, e, take_next hc, List.map_append, List.map_append]
                rfl
            refine ⟨.str ⟨#[c]⟩, rfl, "a", ⟨#[c]⟩, rfl, rfl, _, rfl, ?_⟩
            have ea : (decide ((⟨#[c]⟩ : Str).cps.toList < ("a" : Str).cps.toList)) = decide (c < 97) := lex1 c 97
            have ez : (decide (("z" : Str).cps.toList < (⟨#[c]⟩ : Str).cps.toList)) = decide (122 < c) := lex1 122 c
            refine ite2 (fun h3 => ?_) (fun h3 => ?_)
            · refine ⟨⟨#[c]⟩, "z", rfl, rfl, fin _ ?_⟩
              rw [ea] at h3
              rw [ez]
              unfold isLow
              by_cases z : c < 97
              · rw [decide_eq_true z] at h3
                cases h3
              · rw [decide_eq_true (show 97 ≤ c by omega), Bool.true_and]
                by_cases z2 : 122 < c
                · rw [decide_eq_true z2, decide_eq_false (by omega)]
                  rfl
                · rw [decide_eq_false z2, decide_eq_true (by omega)]
                  rfl
            · refine fin _ ?_
              rw [ea] at h3
              unfold isLow
              by_cases z : c < 97
              · rw [decide_eq_false (show ¬ 97 ≤ c by omega), Bool.false_and]
              · rw [decide_eq_false z] at h3
                exact absurd rfl h3
          · obtain ⟨hD1, s1⟩ := hP
            rw [List.take_length] at hD1
            refine ⟨D, _, rfl, SqL.of hD1, ?_⟩
            have e : isW (.str x) = (x.cps.toList.map isLow).all id := by
              rw [isW_str, decide_eq_true h1', decide_eq_true h2', List.all_map]
              rfl
            have z := q H1 s1
            rw [e] at z
            exact z
      · have h1' : ¬ 1 ≤ x.length := fun z => h1 (decide_eq_true (by omega))
        refine ⟨false, rfl, iteT ?_⟩
        have e : isW (.str x) = false := by rw [isW_str, decide_eq_false h1', Bool.false_and, Bool.false_and]
        have z := q H (Same.refl H)
        rw [e] at z
        exact z
    · refine ⟨v, rfl, v, .ty "str", t, .type "str", false, rfl, .ty _, ht, hk, false, rfl, ?_⟩
      refine iteT ?_
      refine iteT ?_
      have z := q H (Same.refl H)
      rw [hw] at z
      exact z
theorem ok__law_is_word (T : Txt K mg) {f : Addr} {fd : FuncData} (F : Fun K "_law_is_word" "_law_is_word" s__law_is_word f fd) : FnOkG P w K mg base CX0 1 f fd ["_law_value"] (sp__law_is_word K) := by
  have nd := sc__law_is_word.nd
  refine F.okG sc__law_is_word (fun vs H Q E h => ?_) (fun cdv A outer s H vs Q E hr hG h => ?_)
  · obtain ⟨v, rfl, _⟩ := h
    rfl
  · obtain ⟨v, rfl, hv, q⟩ := h
    refine ⟨_, (pss_cons (ps_if (PW.pt (pw_or (pt_not (pt_val (pe_callB call_isi (by rfl) T.b_isinstance (by decide +kernel) (pa_cons (pv 0) (pa_cons (pe_bltn (v := .ty "str") (u := .type "str") (by rfl) T.b_str (by decide +kernel) rfl) pa_nil))))) (pw_or1 (pt_not (pt_chain op_lt op_lt pe_int (pe_callB call_len (by rfl) T.b_len (by decide +kernel) (pa_cons (pv 0) pa_nil)) pe_int))))) (pss_one (ps_ret pe_bl)) pss_nil)
      (pss_one (ps_ret (pe_cmpR (op_eqD hr.units) (pe_lcD (own := [("_law_one", 1)]) (by rfl) nd (pi_str (pv 0)) (blkOk_by (own := [("_law_one", 1)]) (N := ["_law_value", "_law_one"]) (sc := (defScope s__law_is_word)) (by decide +kernel)) (fun _ _ _ _ _ => pg_name (i := 1) nd rfl (Or.inl rfl)) (fun _ _ _ _ _ => pts_one (pt_cmpR op_notIn_sign (pv 1) pe_str (by rfl))) (fun _ _ _ _ _ => (pv 1))) (pe_lst pa_nil) (nomark _))))), ?_⟩
    rcases hv with ⟨x, rfl, hx, ha⟩ | ⟨t, ht, hk, hw⟩
    · have hx1 : x.length ≤ sizeLine := lt_line (by omega)
      have hxl : x.cps.toList.length = x.length := (len_tl x).symm
      refine ⟨.str x, rfl, .str x, .ty "str", .type "str", .type "str", true, rfl, .ty _, .base (.str x), kit_ty (by decide +kernel), true, rfl, ?_⟩
      refine iteF ?_
      refine ⟨.str x, rfl, .str x, x.length, rfl, ⟨hx1, rfl⟩, 0, (x.length : Int), rfl, rfl, _, rfl, ?_⟩
      refine ite2 (fun h1 => ?_) (fun h1 => ?_)
      · have h1' : 1 ≤ x.length := by have := of_decide_eq_true h1; omega
        refine ⟨(x.length : Int), 9, rfl, rfl, _, rfl, ?_⟩
        refine ite2 (fun h2 => ?_) (fun h2 => ?_)
        · have h2' : ¬ x.length ≤ 8 := fun z => by
            rw [decide_eq_true (show (x.length : Int) < 9 by omega)] at h2
            cases h2
          have e : isW (.str x) = false := by rw [isW_str, decide_eq_false h2', Bool.and_false, Bool.false_and]
          have z := q H (Same.refl H)
          rw [e] at z
          exact z
        · have h2' : x.length ≤ 8 := by
            by_cases z : (x.length : Int) < 9
            · omega
            · rw [decide_eq_false z] at h2
              exact absurd rfl h2
          refine ⟨.str x, rfl, x, rfl, fun D hD => lc_txt (fun i H' => H' D = some (.lst (((x.cps.toList.take i).filter fun c => !isLow c).map fun c => V.str ⟨#[c]⟩)) ∧ Same H H') ?_ (fun i c H1 hc hP => ?_) (fun H1 hP => ?_)⟩
          · exact ⟨upd_same, (Same.refl H).mut hD⟩
          · obtain ⟨hD1, s1⟩ := hP
            refine ⟨rfl, ?_⟩
            refine ⟨.str ⟨#[c]⟩, rfl, c, _, rfl, rfl, _, rfl, ?_⟩
            rw [mem_alpha c]
            refine ite2 (fun h3 => ?_) (fun h3 => ?_)
            · refine ⟨_, rfl, _, hD1, lt_line' ?_, ?_, s1.mut hD⟩
              · have := lt_of_get hc
                have h5 := List.length_filter_le (fun c => !isLow c) (x.cps.toList.take i)
                rw [List.length_map]
                rw [List.length_take] at h5
                omega
              · rw [upd_same, take_next hc, List.filter_append, List.map_append]
                rw [show [c].filter (fun c => !isLow c) = [c] by rw [List.filter_cons, if_pos h3]; rfl]
                rfl
            · refine ⟨?_, s1⟩
              rw [hD1, take_next hc, List.filter_append]
              rw [show [c].filter (fun c => !isLow c) = [] by rw [List.filter_cons, if_neg h3]; rfl]
              rw [List.append_nil]
          · obtain ⟨hD1, s1⟩ := hP
            rw [List.take_length] at hD1
            refine ⟨Nat.zero_le _, fun p hp => ?_⟩
            have npD : D ≠ p := ne_of_none hD1 hp
            have hD2 : (upd H1 p (.lst [])) D = some (.lst ((x.cps.toList.filter fun c => !isLow c).map fun c => V.str ⟨#[c]⟩)) := by
              rw [upd_ne npD]
              exact hD1
            refine ⟨_, _, .lst (SqL.of hD2) (dp_signs _), .lst (SqL.of upd_same) .nil, (shaped_flat ?_).1, rfl, ?_⟩
            · intro dd hd
              obtain ⟨c, hc, rfl⟩ := List.mem_map.mp hd
              refine ⟨?_, rfl⟩
              rw [PyData.canLay0]
              refine strOk_ascii fun c' hc' => ?_
              rw [List.mem_singleton.mp hc']
              exact ha c (List.mem_filter.mp hc).1
            · have e : isW (.str x) = PyData.eqv (.list ((x.cps.toList.filter fun c => !isLow c).map fun c => PyData.str ⟨#[c]⟩)) (.list []) := by
                rw [isW_str, decide_eq_true h1', decide_eq_true h2', Bool.true_and, Bool.true_and]
                cases hf : x.cps.toList.filter fun c => !isLow c with
                | nil =>
                  rw [show PyData.eqv (.list (([] : List Nat).map fun c => PyData.str ⟨#[c]⟩)) (.list []) = true from rfl]
                  refine List.all_eq_true.mpr fun c hc => ?_
                  cases hl : isLow c with
                  | true => rfl
                  | false =>
                    have m : c ∈ x.cps.toList.filter fun c => !isLow c := List.mem_filter.mpr ⟨hc, by rw [hl]; rfl⟩
                    rw [hf] at m
                    cases m
                | cons c r =>
                  rw [show PyData.eqv (.list ((c :: r).map fun c => PyData.str ⟨#[c]⟩)) (.list []) = false from rfl]
                  have m : c ∈ x.cps.toList.filter fun c => !isLow c := by rw [hf]; exact List.mem_cons_self ..
                  obtain ⟨m1, m2⟩ := List.mem_filter.mp m
                  refine Bool.eq_false_iff.mpr fun z => ?_
                  rw [List.all_eq_true.mp z c m1] at m2
                  cases m2
              have z := q _ (s1.new (o := .lst []) hp)
              rw [e] at z
              exact z
      · have h1' : ¬ 1 ≤ x.length := fun z => h1 (decide_eq_true (by omega))
        refine ⟨false, rfl, iteT ?_⟩
        have e : isW (.str x) = false := by rw [isW_str, decide_eq_false h1', Bool.false_and, Bool.false_and]
        have z := q H (Same.refl H)
        rw [e] at z
        exact z
    · refine ⟨v, rfl, v, .ty "str", t, .type "str", false, rfl, .ty _, ht, hk, false, rfl, ?_⟩
      refine iteT ?_
      refine iteT ?_
      have z := q H (Same.refl H)
      rw [hw] at z
      exact z
end

def AnyV (K : PySem.W.Frag) (d : Addr) (H : Hp) (v : V) : Prop := ∀ H', Ext d H H' → ValW K H' v
def sp__law_some_value (K : PySem.W.Frag) : Sp := fun vs H Q _ => ∃ d, vs = [.ref d] ∧ IsDice H d ∧ ∀ v H', AnyV K d H' v → Ext d H H' → IsDice H' d → Q v H'
def menu : List Str := ["", "", "A", " ", "-", "0", "_", "?", "(", ">", "\n"]
theorem menu_ok : menu.all (fun y => decide (y.length ≤ 1) && y.cps.toList.all (fun c => decide (c < 128))) = true := by decide +kernel
theorem base_ok : ("aabcdehklnorstyzz" : Str).length = 17 ∧ ("aabcdehklnorstyzz" : Str).cps.toList.all (fun c => decide (c < 128)) = true := by decide +kernel
theorem any_str {K : PySem.W.Frag} {d : Addr} {H : Hp} {x : Str} (h : x.length ≤ 1000) (a : ∀ c ∈ x.cps.toList, c < 128) : AnyV K d H (.str x) := fun _ _ => .inl ⟨x, rfl, h, a⟩
theorem any_lit {K : PySem.W.Frag} {d : Addr} {H : Hp} {x : Str} (h : (decide (x.length ≤ 1000) && x.cps.toList.all (fun c => decide (c < 128))) = true) : AnyV K d H (.str x) := by
  obtain ⟨h1, h2⟩ := Bool.and_eq_true_iff.mp h
  exact any_str (of_decide_eq_true h1) fun c hc => of_decide_eq_true (List.all_eq_true.mp h2 c hc)
theorem AnyV.ext {K : PySem.W.Frag} {d : Addr} {H H1 : Hp} {v : V} (h : AnyV K d H v) (e : Ext d H H1) : AnyV K d H1 v := fun H' e' => h H' (e.trans e')
theorem joinL_nil_mem {c : Nat} : ∀ {ps : List (List Nat)}, c ∈ joinL [] ps → ∃ p ∈ ps, c ∈ p
  | [], h => by cases h
  | [p], h => ⟨p, List.mem_singleton.mpr rfl, h⟩
  | p :: q :: r, h => by
    rcases List.mem_append.mp (show c ∈ p ++ ([] ++ joinL [] (q :: r)) from h) with h | h
    · exact ⟨p, List.mem_cons_self .., h⟩
    · obtain ⟨p', h1, h2⟩ := joinL_nil_mem (show c ∈ joinL [] (q :: r) from h)
      exact ⟨p', List.mem_cons_of_mem _ h1, h2⟩
theorem joinL_nil_len : ∀ {ps : List (List Nat)}, (∀ p ∈ ps, p.length = 1) → (joinL [] ps).length = ps.length
  | [], _ => rfl
  | [p], h => h p (List.mem_singleton.mpr rfl)
  | p :: q :: r, h => by
    show (p ++ ([] ++ joinL [] (q :: r))).length = _
    rw [List.length_append, List.nil_append, joinL_nil_len (ps := q :: r) (fun x hx => h x (List.mem_cons_of_mem _ hx)), h p (List.mem_cons_self ..), List.length_cons (a := p)]
    omega
/-- signs put together -/
theorem join_signs {zs : List Str} (h : ∀ z ∈ zs, ∃ c, z = ⟨#[c]⟩ ∧ c < 128) : (Txt.join "" zs).length = zs.length ∧ (∀ c ∈ (Txt.join "" zs).cps.toList, c < 128) ∧ (zs.map (·.length)).sum = zs.length := by
  have e : tl (Txt.join "" zs) = joinL [] (zs.map tl) := by
    rw [join_eq, tl_join]
    rfl
  have o : ∀ p ∈ zs.map tl, p.length = 1 := fun p hp => by
    obtain ⟨z, hz, rfl⟩ := List.mem_map.mp hp
    obtain ⟨c, rfl, _⟩ := h z hz
    rfl
  refine ⟨?_, fun c hc => ?_, ?_⟩
  · rw [len_tl, e, joinL_nil_len o, List.length_map]
  · rw [show (Txt.join "" zs).cps.toList = joinL [] (zs.map tl) from e] at hc
    obtain ⟨p, hp, hc⟩ := joinL_nil_mem hc
    obtain ⟨z, hz, rfl⟩ := List.mem_map.mp hp
    obtain ⟨c', rfl, h'⟩ := h z hz
    rw [show c = c' from List.mem_singleton.mp hc]
    exact h'
  · have : ∀ l : List Str, (∀ z ∈ l, ∃ c, z = ⟨#[c]⟩ ∧ c < 128) → (l.map (·.length)).sum = l.length := by
      intro l
      induction l with
      | nil => intro _; rfl
      | cons z r ih =>
        intro h
        obtain ⟨c, ez, _⟩ := h z (List.mem_cons_self ..)
        rw [List.map_cons, List.sum_cons, ih fun x hx => h x (List.mem_cons_of_mem _ hx), ez, List.length_cons]
        show 1 + r.length = _
        omega
    exact this zs h
section
variable {P : Program} {w : World} {K : PySem.W.Frag} {mg : Str → Option Value} {base : Heap}
theorem ok__law_some_value (T : Txt K mg) (c__law_roll : Cal P w K mg base "_law_roll" 1 ["_law_dice_here", "_law_total"] (sp__law_roll K)) (c__law_pick : Cal P w K mg base "_law_pick" 2 ["_law_dice_here", "_law_items"] (sp__law_pick K)) (c__law_some : Cal P w K mg base "_law_some" 2 ["_law_dice_here", "_law_items", "_law_size"] (sp__law_some K)) {f : Addr} {fd : FuncData} (F : Fun K "_law_some_value" "_law_some_value" s__law_some_value f fd) : FnOkG P w K mg base CX0 3 f fd ["_law_dice_here"] (sp__law_some_value K) := by
  have nd := sc__law_some_value.nd
  refine F.okG sc__law_some_value (fun vs H Q E h => ?_) (fun cdv A outer s H vs Q E hr hG h => ?_)
  · obtain ⟨d, rfl, _⟩ := h
    rfl
  · obtain ⟨d, rfl, hd, q⟩ := h
    refine ⟨_, (pss_cons (ps_set (i := 1) nd rfl (.inr rfl) (pe_op op_add_str pe_str (pe_callC c__law_pick (hr.mono (by decide)) hG rfl (pa_cons (pv 0) (pa_cons (pe_lst (pa_cons pe_str (pa_cons pe_str (pa_cons pe_str (pa_cons pe_str (pa_cons pe_str (pa_cons pe_str (pa_cons pe_str (pa_cons pe_str (pa_cons pe_str (pa_cons pe_str (pa_cons pe_str pa_nil)))))))))))) pa_nil)))))
      (pss_cons (ps_setLcD (i := 2) (own := [("_law_draw", 4)]) (by rfl) nd rfl rfl (sw_true rfl rfl rfl (by decide +kernel)) (pi_range1 (by rfl) T.b_range (pa_cons pe_int pa_nil)) (blkOk_by (own := [("_law_draw", 4)]) (N := ["_law_dice_here", "_law_signs", "_law_some_here", "_law_odd", "_law_draw", "_law_turn"]) (sc := (defScope s__law_some_value)) (by decide +kernel)) (fun _ _ _ _ _ => pg_name (i := 4) nd rfl (Or.inl rfl)) (fun _ _ _ _ _ => pts_nil) (fun _ _ _ _ _ => (pe_join pe_str (pe_lcD (own := [("_law_turn", 5)]) (by rfl) nd (pi_range1 (by rfl) T.b_range (pa_cons (pe_callC c__law_roll (hr.mono (by decide)) hG rfl (pa_cons (pv 0) (pa_cons pe_int pa_nil))) pa_nil)) (blkOk_by (own := [("_law_turn", 5)]) (N := ["_law_dice_here", "_law_signs", "_law_some_here", "_law_odd", "_law_draw", "_law_turn"]) (sc := { kind := .function, names := [(".0", .local), ("_law_draw", .local), ("range", .globalImplicit), ("_law_roll", .globalImplicit), ("_law_dice_here", .cell), ("_law_signs", .cell)], isGenerator := false, isCoroutine := false, more := [] }) (by decide +kernel)) (fun _ _ _ _ _ => pg_name (i := 5) nd rfl (Or.inl rfl)) (fun _ _ _ _ _ => pts_nil) (fun _ _ _ _ _ => (pe_callC c__law_pick (hr.mono (by decide)) hG rfl (pa_cons (pv 0) (pa_cons (pe_callTy (call_list_text rfl) (by rfl) T.b_list (by decide +kernel) (pa_cons (pv 1) pa_nil)) pa_nil))))))))
      (pss_cons (ps_set (i := 3) nd rfl (.inl rfl) (pe_lst (pa_cons pe_non (pa_cons pe_int (pa_cons pe_bl (pa_cons (pe_tup pa_nil) (pa_cons (pe_tup (pa_cons pe_str pa_nil)) (pa_cons (pe_lst (pa_cons pe_str pa_nil)) (pa_cons pe_dnewK (pa_cons (pe_op op_powW pe_int pe_int) (pa_cons pe_str (pa_cons pe_str (pa_cons pe_str (pa_cons pe_str (pa_cons pe_str (pa_cons pe_str (pa_cons pe_str (pa_cons pe_str pa_nil))))))))))))))))))
      (pss_one (ps_ret (pe_callC c__law_pick (hr.mono (by decide)) hG rfl (pa_cons (pv 0) (pa_cons (pe_op op_cat (pv 2) (pe_callC c__law_some (hr.mono (by decide)) hG rfl (pa_cons (pv 0) (pa_cons (pv 3) (pa_cons pe_int pa_nil))))) pa_nil)))))))), ?_⟩
    refine ⟨.ref d, rfl, by show 11 ≤ sizeLine; decide, fun p hp => ?_⟩
    refine ⟨d, p, menu.map V.str, rfl, hd.new hp, SqL.of upd_same, hd.ne hp, by simp [menu], by decide, fun x H1 hx e1 d1 => ?_⟩
    obtain ⟨y, hy, rfl⟩ := mem_strs hx
    obtain ⟨y1, y2⟩ := Bool.and_eq_true_iff.mp (List.all_eq_true.mp menu_ok y hy)
    have y1 := of_decide_eq_true y1
    refine ⟨_, y, rfl, rfl, lt_line (by rw [base_ok.1]; omega), ?_⟩
    have a1 : Ext d H H1 := ((Ext.refl H).new hp).trans e1
    have g1 : ((("aabcdehklnorstyzz" : Str) ++ y).length ≤ 18 ∧ 17 ≤ (("aabcdehklnorstyzz" : Str) ++ y).length) ∧ ∀ c ∈ (("aabcdehklnorstyzz" : Str) ++ y).cps.toList, c < 128 := by
      refine ⟨?_, fun c hc => ?_⟩
      · rw [len_tl, tl_append, List.length_append, ← len_tl, ← len_tl, base_ok.1]
        omega
      · rw [show (("aabcdehklnorstyzz" : Str) ++ y).cps.toList = _ from tl_append _ y] at hc
        rcases List.mem_append.mp hc with h | h
        · exact of_decide_eq_true (List.all_eq_true.mp base_ok.2 c h)
        · exact of_decide_eq_true (List.all_eq_true.mp y2 c h)
    generalize hsg : ("aabcdehklnorstyzz" : Str) ++ y = sg at g1
    obtain ⟨⟨g1, g2⟩, g3⟩ := g1
    have gl : sg.cps.toList.length = sg.length := (len_tl sg).symm
    refine ⟨5, rfl, by decide, by decide, fun D hD => lc_range (lo := 0) (n := 5) (fun i H' => ∃ ys : List Str, H' D = some (.lst (ys.map V.str)) ∧ ys.length = i ∧ (∀ y ∈ ys, y.length ≤ 10 ∧ ∀ c ∈ y.cps.toList, c < 128) ∧ Ext d H H' ∧ IsDice H' d) ?_ (fun i H2 hi hP => ?_) (fun H2 hP => ?_)⟩
    · exact ⟨[], upd_same, rfl, fun _ h => (by cases h), a1.new hD, d1.new hD⟩
    · obtain ⟨ys, hD2, ey, ay, e2, d2⟩ := hP
      have neD : D ≠ d := d1.ne hD
      refine ⟨rfl, tyes ?_⟩
      refine ⟨⟨_, rfl⟩, .ref d, rfl, d, 11, rfl, d2, by decide, by decide, fun r H3 r0 r1 e3 d3 => ?_⟩
      have hD3 := e3 _ _ neD hD2
      refine ⟨r, rfl, by omega, by omega, fun D2 hE => lc_range (lo := 0) (n := r.toNat) (fun j H' => ∃ zs : List Str, H' D2 = some (.lst (zs.map V.str)) ∧ zs.length = j ∧ (∀ z ∈ zs, ∃ c, z = ⟨#[c]⟩ ∧ c < 128) ∧ H' D = some (.lst (ys.map V.str)) ∧ Ext d H H' ∧ IsDice H' d) ?_ (fun j H4 hj hP => ?_) (fun H4 hP => ?_)⟩
      · exact ⟨[], upd_same, rfl, fun _ h => (by cases h), by rw [upd_ne (ne_of_none hD3 hE)]; exact hD3, (e2.trans e3).new hE, d3.new hE⟩
      · obtain ⟨zs, hz, ez, az, hD4, e4, d4⟩ := hP
        have neE : D2 ≠ d := d3.ne hE
        have nDE : D ≠ D2 := ne_of_none hD3 hE
        have hH2 : H D2 = none := (e2.trans e3).none neE hE
        refine ⟨rfl, tyes ?_⟩
        refine ⟨.ref d, rfl, .str sg, by rw [← hsg]; rfl, sg, rfl, lt_line (by omega), fun l hl => ?_⟩
        refine ⟨d, l, _, rfl, d4.new hl, SqL.of upd_same, d4.ne hl, ?_, ?_, fun x H5 hx e5 d5 => ?_⟩
        · intro z
          have := congrArg List.length z
          simp only [sgnV, List.length_map, List.length_nil] at this
          omega
        · simp only [sgnV, List.length_map]
          omega
        · obtain ⟨c, hc, rfl⟩ := List.mem_map.mp hx
          have hz5 := e5 _ _ neE (by rw [upd_ne (ne_of_none hz hl)]; exact hz)
          have hD5 := e5 _ _ neD (by rw [upd_ne (ne_of_none hD4 hl)]; exact hD4)
          refine ⟨_, hz5, lt_line' (by rw [List.length_map]; omega), zs ++ [⟨#[c]⟩], ?_, by rw [List.length_append, ez]; rfl, ?_, ?_, ?_, ?_⟩
          · rw [upd_same, List.map_append]
            rfl
          · intro z hz
            rcases List.mem_append.mp hz with h | h
            · exact az z h
            · exact ⟨c, List.mem_singleton.mp h, g3 c hc⟩
          · rw [upd_ne nDE]
            exact hD5
          · exact ((e4.new hl).trans e5).mut hH2
          · exact d5.mut neE
      · obtain ⟨zs, hz, ez, az, hD4, e4, d4⟩ := hP
        obtain ⟨j1, j2, j3⟩ := join_signs az
        have hH : H D = none := a1.none neD hD
        refine ⟨"", D2, zs, rfl, rfl, .inl (SqL.of hz), ?_, ?_⟩
        · rw [j3, show ("" : Str).length = 0 from rfl]
          omega
        · refine ⟨_, hD4, lt_line' (by rw [List.length_map]; omega), ys ++ [Txt.join "" zs], ?_, by rw [List.length_append, ey]; rfl, ?_, e4.mut hH, d4.mut neD⟩
          · rw [upd_same, List.map_append]
            rfl
          · intro y hy
            rcases List.mem_append.mp hy with h | h
            · exact ay y h
            · rw [List.mem_singleton.mp h]
              exact ⟨by rw [j1]; omega, j2⟩
    · obtain ⟨ys, hD2, ey, ay, e2, d2⟩ := hP
      have neD : D ≠ d := d1.ne hD
      refine ⟨by show 0 ≤ sizeLine; decide, fun p1 h1 => ?_⟩
      refine ⟨by show 1 ≤ sizeLine; decide, fun p2 h2 => ?_⟩
      refine ⟨by show 1 ≤ sizeLine; decide, fun p3 h3 => ?_⟩
      refine fun p4 h4 => ?_
      refine ⟨10, 59, rfl, rfl, ⟨by decide, by decide +kernel⟩, by show 16 ≤ sizeLine; decide, fun p5 h5 => ?_⟩
      have e4 : Ext d H2 (upd (upd (upd (upd H2 p1 (.tup [])) p2 (.tup [.str "a"])) p3 (.lst [.str "a"])) p4 (.dK [])) := ((((Ext.refl H2).new h1).new h2).new h3).new h4
      have d4 : IsDice (upd (upd (upd (upd H2 p1 (.tup [])) p2 (.tup [.str "a"])) p3 (.lst [.str "a"])) p4 (.dK [])) d := (((d2.new h1).new h2).new h3).new h4
      have r1 : (upd (upd (upd (upd H2 p1 (.tup [])) p2 (.tup [.str "a"])) p3 (.lst [.str "a"])) p4 (.dK [])) p1 = some (.tup []) := ((((Same.refl _).new h2).new h3).new h4) _ _ upd_same
      have r2 : (upd (upd (upd (upd H2 p1 (.tup [])) p2 (.tup [.str "a"])) p3 (.lst [.str "a"])) p4 (.dK [])) p2 = some (.tup [.str "a"]) := (((Same.refl _).new h3).new h4) _ _ upd_same
      have r3 : (upd (upd (upd (upd H2 p1 (.tup [])) p2 (.tup [.str "a"])) p3 (.lst [.str "a"])) p4 (.dK [])) p3 = some (.lst [.str "a"]) := ((Same.refl _).new h4) _ _ upd_same
      have r4 : (upd (upd (upd (upd H2 p1 (.tup [])) p2 (.tup [.str "a"])) p3 (.lst [.str "a"])) p4 (.dK [])) p4 = some (.dK []) := upd_same
      have n1 : p1 ≠ d := d2.ne h1
      have n2 : p2 ≠ d := (d2.new h1).ne h2
      have n3 : p3 ≠ d := ((d2.new h1).new h2).ne h3
      have n4 : p4 ≠ d := (((d2.new h1).new h2).new h3).ne h4
      generalize hG : upd (upd (upd (upd H2 p1 (.tup [])) p2 (.tup [.str "a"])) p3 (.lst [.str "a"])) p4 (.dK []) = G at e4 d4 r1 r2 r3 r4 h5
      have eG : (upd H2 p1 (.tup [])) = (upd H2 p1 (.tup [])) := rfl
      have n5 : p5 ≠ d := d4.ne h5
      have odd : ∀ x ∈ [V.non, .int 0, .bl true, .ref p1, .ref p2, .ref p3, .ref p4, .int ((10 : Int) ^ (59 : Int).toNat), .str "F", .str "?", .str "x0", .str "", .str "abcdefghi", .str "abcdefgh", .str "is", .str "a -> b"], AnyV K d G x := by
        intro x hx
        simp only [List.mem_cons, List.not_mem_nil, or_false] at hx
        rcases hx with rfl | rfl | rfl | rfl | rfl | rfl | rfl | rfl | rfl | rfl | rfl | rfl | rfl | rfl | rfl | rfl
        · exact fun _ _ => .inr ⟨_, .base .non, kit_ty (by decide +kernel), rfl⟩
        · exact fun _ _ => .inr ⟨_, .base (.int _), kit_ty (by decide +kernel), rfl⟩
        · exact fun _ _ => .inr ⟨_, .base (.bl _), kit_ty (by decide +kernel), rfl⟩
        · exact fun _ e => .inr ⟨_, .base (.tup (e _ _ n1 r1)), kit_ty (by decide +kernel), rfl⟩
        · exact fun _ e => .inr ⟨_, .base (.tup (e _ _ n2 r2)), kit_ty (by decide +kernel), rfl⟩
        · exact fun _ e => .inr ⟨_, .base (.lst (e _ _ n3 r3)), kit_ty (by decide +kernel), rfl⟩
        · exact fun _ e => .inr ⟨_, .base (.dK (e _ _ n4 r4)), kit_ty (by decide +kernel), rfl⟩
        · exact fun _ _ => .inr ⟨_, .base (.int _), kit_ty (by decide +kernel), rfl⟩
        all_goals exact any_lit (by decide +kernel)
      refine ⟨.ref d, rfl, .ref D, rfl, .ref d, rfl, .ref p5, rfl, d, p5, _, 3, rfl, d4.new h5, SqL.of upd_same, n5, by show 16 < 1000000; decide, by decide, fun p zs H3 az lz hp pn hp3 e3 d3 => ?_⟩
      have hD3 : H3 D = some (.lst (ys.map V.str)) := e3 _ _ neD (((Ext.refl G).new h5) _ _ neD (e4 _ _ neD hD2))
      have lz' : zs.length ≤ 16 := lz
      refine ⟨D, p, _, _, rfl, rfl, hD3, hp3, lt_line (by rw [List.length_map]; omega), fun r hr => ?_⟩
      refine ⟨d, r, _, rfl, d3.new hr, SqL.of upd_same, d3.ne hr, ?_, ?_, fun x H4 hx e5 d5 => ?_⟩
      · intro z
        have := congrArg List.length z
        have h5 : ys.length = 5 := ey
        rw [List.length_append, List.length_map, h5, List.length_nil] at this
        omega
      · rw [List.length_append, List.length_map]
        omega
      · have eA : Ext d (upd G p5 (.lst [V.non, .int 0, .bl true, .ref p1, .ref p2, .ref p3, .ref p4, .int ((10 : Int) ^ (59 : Int).toNat), .str "F", .str "?", .str "x0", .str "", .str "abcdefghi", .str "abcdefgh", .str "is", .str "a -> b"])) H4 := (e3.new hr).trans e5
        refine q x H4 ?_ (e2.trans (e4.trans (((Ext.refl G).new h5).trans eA))) d5
        rcases List.mem_append.mp hx with h | h
        · obtain ⟨y, hy, rfl⟩ := mem_strs h
          have := ay y hy
          exact any_str (by omega) this.2
        · exact ((odd x (az x h)).ext ((Ext.refl G).new h5)).ext eA
end

def words : List Str := ["cons", "", "abcdefgh", "abcdefghi", "a b", "x0", "X"]
theorem words_ok : words.all (fun y => decide (y.length ≤ 1000) && y.cps.toList.all (fun c => decide (c < 128))) = true := by decide +kernel
section
variable {P : Program} {w : World} {K : PySem.W.Frag} {mg : Str → Option Value} {base : Heap}
theorem ok_law (T : Txt K mg) (c_is_word : Cal P w K mg base "is_word" 1 ["value"] (sp_is_word K)) (c__law_dice : Cal P w K mg base "_law_dice" 1 ["_law_script", "_law_spot"] (sp__law_dice K)) (c__law_is_word : Cal P w K mg base "_law_is_word" 1 ["_law_value"] (sp__law_is_word K)) (c__law_some_value : Cal P w K mg base "_law_some_value" 3 ["_law_dice_here"] (sp__law_some_value K)) {f : Addr} {fd : FuncData} (F : Fun K "law" "law" s_law f fd) : FnOkG P w K mg base CX0 4 f fd ["_law_script"] (sp_law K) := by
  have nd := sc_law.nd
  refine F.okG sc_law (fun vs H Q E h => ?_) (fun cdv A outer s H vs Q E hr hG h => ?_)
  · obtain ⟨a, ns, rfl, _⟩ := h
    rfl
  · obtain ⟨a, ns, rfl, hS, hn, q⟩ := h
    refine ⟨_, (pss_cons (ps_for PassesOwn.never rfl (pi_range1 (by rfl) T.b_range (pa_cons (pe_callB (call_max2 rfl) (by rfl) T.b_max (by decide +kernel) (pa_cons pe_int (pa_cons (pe_callB (call_min2 rfl) (by rfl) T.b_min (by decide +kernel) (pa_cons pe_int (pa_cons (pe_callB call_len (by rfl) T.b_len (by decide +kernel) (pa_cons (pv 0) pa_nil)) pa_nil))) pa_nil))) pa_nil)) (pg_name (i := 1) nd rfl (.inl rfl)) (pss_cons (ps_set (i := 2) nd rfl (.inl rfl) (pe_callC c__law_dice (hr.mono (by decide)) hG rfl (pa_cons (pv 0) (pa_cons (pv 1) pa_nil))))
      (pss_one (ps_for PassesOwn.never rfl (pi_range1 (by rfl) T.b_range (pa_cons pe_int pa_nil)) (pg_name (i := 3) nd rfl (.inl rfl)) (pss_cons (ps_set (i := 4) nd rfl (.inl rfl) (pe_callC c__law_some_value (hr.mono (by decide)) hG rfl (pa_cons (pv 2) pa_nil)))
      (pss_one (ps_if (pt_cmpR op_ne (pe_callB call_repr_bl (by rfl) T.b_repr (by decide +kernel) (pa_cons (pe_callC c_is_word (hr.mono (by decide)) hG rfl (pa_cons (pv 4) pa_nil)) pa_nil)) (pe_callB call_repr_bl (by rfl) T.b_repr (by decide +kernel) (pa_cons (pe_callC c__law_is_word (hr.mono (by decide)) hG rfl (pa_cons (pv 4) pa_nil)) pa_nil)) (nomark _)) (pss_one (ps_ret pe_bl)) pss_nil)))))))
      (pss_cons (ps_setLcD (i := 5) (own := [("_law_one", 6)]) (by rfl) nd rfl rfl (sw_true rfl rfl rfl (by decide +kernel)) (pi_list (pe_lst (pa_cons pe_str (pa_cons pe_str (pa_cons pe_str (pa_cons pe_str (pa_cons pe_str (pa_cons pe_str (pa_cons pe_str pa_nil))))))))) (blkOk_by (own := [("_law_one", 6)]) (N := ["_law_script", "_law_spot", "_law_dice_here", "_law_turn", "_law_value", "_law_told", "_law_one"]) (sc := (defScope s_law)) (by decide +kernel)) (fun _ _ _ _ _ => pg_name (i := 6) nd rfl (Or.inl rfl)) (fun _ _ _ _ _ => pts_nil) (fun _ _ _ _ _ => (pe_callC c_is_word (hr.mono (by decide)) hG rfl (pa_cons (pv 6) pa_nil))))
      (pss_one (ps_ret (pe_and (pe_cmpR (op_eqD hr.units) (pv 5) (pe_lst (pa_cons pe_bl (pa_cons pe_bl (pa_cons pe_bl (pa_cons pe_bl (pa_cons pe_bl (pa_cons pe_bl (pa_cons pe_bl pa_nil)))))))) (nomark _)) (pe_one (pe_cmpR (op_eqD hr.units) (pe_lst (pa_cons (pe_globE rfl T.g_MAX_LETTERS) (pa_cons (pe_globE rfl T.g_GAP) (pa_cons (pe_globE rfl T.g_VARIABLE) pa_nil)))) (pe_lst (pa_cons pe_int (pa_cons pe_str (pa_cons pe_str pa_nil)))) (nomark _)))))))), ?_⟩
    obtain ⟨j1, j2⟩ := cells_ok hn _ rfl
    refine ⟨.ref a, rfl, .ref a, _, rfl, .inl ⟨_, hS, rfl⟩, 8, _, rfl, 1, _, rfl, _, rfl, ?_, ?_, ?_⟩
    · rw [List.length_map]
      omega
    · rw [List.length_map]
      omega
    rw [List.length_map]
    refine for_range (lo := 0) (fun i σ H' => (∃ s1 s2 s3 s4 s5 s6, σ = [some (.ref a), s1, s2, s3, s4, s5, s6]) ∧ Same H H') ?_ (fun i σ H1 hi hP => ?_) (fun σ H1 hP => ?_)
    · exact ⟨⟨_, _, _, _, _, _, rfl⟩, Same.refl H⟩
    · obtain ⟨⟨s1, s2, s3, s4, s5, s6, rfl⟩, sm⟩ := hP
      refine ⟨.ref a, rfl, _, rfl, a, ns, _, rfl, sm.seq hS, by omega, by omega, fun d o hd dd => ?_⟩
      have hdH : H d = none := sm.free hd
      refine ⟨30, rfl, by decide, by decide, for_range (lo := 0) (fun j σ H' => (∃ s1 s3 s4 s5 s6, σ = [some (.ref a), s1, some (.ref d), s3, s4, s5, s6]) ∧ Same H H' ∧ IsDice H' d) ?_ (fun j σ H2 hj hP => ?_) (fun σ H2 hP => ?_)⟩
      · exact ⟨⟨_, _, _, _, _, rfl⟩, sm.mut hdH, dd⟩
      · obtain ⟨⟨s1, s3, s4, s5, s6, rfl⟩, sm2, d2⟩ := hP
        refine ⟨.ref d, rfl, d, rfl, d2, fun v H3 hv e3 d3 => ?_⟩
        have m3 := same_ext sm2 hdH e3
        refine ⟨v, rfl, v, rfl, hv _ (Ext.refl _), fun H4 s4 => ⟨_, rfl, v, rfl, v, rfl, hv _ (Ext.same s4), fun H5 s5 => ⟨_, rfl, rfl, _, rfl, ?_⟩⟩⟩
        refine iteNS rfl ?_
        exact ⟨⟨_, _, _, _, _, rfl⟩, (m3.trans s4).trans s5, (d3.same s4).same s5⟩
      · obtain ⟨⟨s1, s3, s4, s5, s6, rfl⟩, sm2, d2⟩ := hP
        exact ⟨⟨_, _, _, _, _, _, rfl⟩, sm2⟩
    · obtain ⟨⟨s1, s2, s3, s4, s5, s6, rfl⟩, sm⟩ := hP
      refine ⟨by show 7 ≤ sizeLine; decide, fun p hp => ⟨p, rfl, ⟨_, SqL.of upd_same⟩, fun D hD => ?_⟩⟩
      have npD : p ≠ D := ne_of_none upd_same hD
      refine lc_list (xs := words.map V.str) (fun i H' => H' D = some (.lst (((words.take i).map fun y => isW (.str y)).map V.bl)) ∧ H' p = some (.lst (words.map V.str))) ?_ (fun i H' _ hP => SqL.of hP.2) (fun i x H2 hx hP => ?_) (fun H2 hP => ?_)
      · exact ⟨upd_same, by rw [upd_ne npD]; exact upd_same⟩
      · obtain ⟨hD1, hp1⟩ := hP
        rw [List.getElem?_map] at hx
        cases hy : words[i]? with
        | none =>
          rw [hy] at hx
          cases hx
        | some y =>
          rw [hy] at hx
          cases hx
          refine ⟨rfl, tyes ?_⟩
          refine ⟨_, rfl, .str y, rfl, ?_, fun H3 s3 => ?_⟩
          · obtain ⟨y1, y2⟩ := Bool.and_eq_true_iff.mp (List.all_eq_true.mp words_ok y (List.mem_of_getElem? hy))
            exact .inl ⟨y, rfl, of_decide_eq_true y1, fun c hc => of_decide_eq_true (List.all_eq_true.mp y2 c hc)⟩
          · refine ⟨_, s3 _ _ hD1, lt_line' ?_, ?_, ?_⟩
            · rw [List.length_map, List.length_map, List.length_take]
              have := lt_of_get hy
              have : words.length = 7 := rfl
              omega
            · rw [upd_same, take_next hy, List.map_append, List.map_append]
              rfl
            · rw [upd_ne npD]
              exact s3 _ _ hp1
      · obtain ⟨hD1, hp1⟩ := hP
        rw [List.length_map, List.take_length] at hD1
        refine ⟨.ref D, rfl, by show 7 ≤ sizeLine; decide, fun p2 h2 => ?_⟩
        have hD2 : ∀ o, (upd H2 p2 o) D = some (.lst ((words.map fun y => isW (.str y)).map V.bl)) := fun o => by
          rw [upd_ne (ne_of_none hD1 h2)]
          exact hD1
        refine ⟨_, .list ([true, false, true, false, false, false, false].map PyData.bool), .lst (SqL.of (hD2 _)) (dp_bls _), .lst (SqL.of upd_same) (dp_bls [true, false, true, false, false, false, false]), by decide +kernel, by decide +kernel, true, ?_, ?_⟩
        · exact congrArg V.bl (by decide +kernel)
        · refine iteT ?_
          refine ⟨by show 3 ≤ sizeLine; decide, fun p3 h3 => ⟨by show 3 ≤ sizeLine; decide, fun p4 h4 => ?_⟩⟩
          refine ⟨.list [.int 8, .str "?", .str "x"], .list [.int 8, .str "?", .str "x"], .lst (SqL.of (by rw [upd_ne (ne_of_none upd_same h4)]; exact upd_same)) (.cons (.int _) (.cons (.str _) (.cons (.str _) .nil))),
            .lst (SqL.of upd_same) (.cons (.int _) (.cons (.str _) (.cons (.str _) .nil))), by decide +kernel, by decide +kernel, ?_⟩
          rw [show PyData.eqv (.list [.int 8, .str "?", .str "x"]) (.list [.int 8, .str "?", .str "x"]) = true by decide +kernel]
          exact q _
end

theorem all_mk {l : PySem.W.OpenLaw} {w : World} {K : PySem.W.Frag} {h : Heap} {mg : Str → Option Value} {fa : Addr} (X : K.In h) (G : h.Ns mainGlobals mg) (hfa : mg "law" = some (.ref fa))
    {f_is_word : Addr} {od_is_word an_is_word : Option Addr} {sl_is_word : Array (Option Value)} {oc_is_word kV_is_word dc_is_word pm_is_word cd_is_word ct_is_word : Value} {f__law_dice : Addr} {od__law_dice an__law_dice : Option Addr} {sl__law_dice : Array (Option Value)} {oc__law_dice kV__law_dice dc__law_dice pm__law_dice cd__law_dice ct__law_dice : Value} {f__law_roll : Addr} {od__law_roll an__law_roll : Option Addr} {sl__law_roll : Array (Option Value)} {oc__law_roll kV__law_roll dc__law_roll pm__law_roll cd__law_roll ct__law_roll : Value} {f__law_pick : Addr} {od__law_pick an__law_pick : Option Addr} {sl__law_pick : Array (Option Value)} {oc__law_pick kV__law_pick dc__law_pick pm__law_pick cd__law_pick ct__law_pick : Value} {f__law_some : Addr} {od__law_some an__law_some : Option Addr} {sl__law_some : Array (Option Value)} {oc__law_some kV__law_some dc__law_some pm__law_some cd__law_some ct__law_some : Value} {f__law_is_word : Addr} {od__law_is_word an__law_is_word : Option Addr} {sl__law_is_word : Array (Option Value)} {oc__law_is_word kV__law_is_word dc__law_is_word pm__law_is_word cd__law_is_word ct__law_is_word : Value} {f__law_some_value : Addr} {od__law_some_value an__law_some_value : Option Addr} {sl__law_some_value : Array (Option Value)} {oc__law_some_value kV__law_some_value dc__law_some_value pm__law_some_value cd__law_some_value ct__law_some_value : Value} {f_law : Addr} {od_law an_law : Option Addr} {sl_law : Array (Option Value)} {oc_law kV_law dc_law pm_law cd_law ct_law : Value} {t_MAX_LETTERS : Tok} {t_GAP : Tok} {t_VARIABLE : Tok}
    (a_is_word : PySem.W.nsIn K mainGlobals "is_word" = some (some (.ref f_is_word)))
    (l_is_word : K.lookup f_is_word = some ⟨oc_is_word, od_is_word, .func (PySem.W.fnOf "is_word" "is_word" (defArgs s_is_word) (defBody s_is_word) (defScope s_is_word) .none kV_is_word dc_is_word pm_is_word an_is_word cd_is_word ct_is_word), sl_is_word⟩)
    (c_is_word : PySem.W.codeIn K cd_is_word "is_word" = true)
    (k_is_word : PySem.W.keepIn K (.ref f_is_word) = true)
    (a__law_dice : PySem.W.nsIn K mainGlobals "_law_dice" = some (some (.ref f__law_dice)))
    (l__law_dice : K.lookup f__law_dice = some ⟨oc__law_dice, od__law_dice, .func (PySem.W.fnOf "_law_dice" "_law_dice" (defArgs s__law_dice) (defBody s__law_dice) (defScope s__law_dice) .none kV__law_dice dc__law_dice pm__law_dice an__law_dice cd__law_dice ct__law_dice), sl__law_dice⟩)
    (c__law_dice : PySem.W.codeIn K cd__law_dice "_law_dice" = true)
    (k__law_dice : PySem.W.keepIn K (.ref f__law_dice) = true)
    (a__law_roll : PySem.W.nsIn K mainGlobals "_law_roll" = some (some (.ref f__law_roll)))
    (l__law_roll : K.lookup f__law_roll = some ⟨oc__law_roll, od__law_roll, .func (PySem.W.fnOf "_law_roll" "_law_roll" (defArgs s__law_roll) (defBody s__law_roll) (defScope s__law_roll) .none kV__law_roll dc__law_roll pm__law_roll an__law_roll cd__law_roll ct__law_roll), sl__law_roll⟩)
    (c__law_roll : PySem.W.codeIn K cd__law_roll "_law_roll" = true)
    (k__law_roll : PySem.W.keepIn K (.ref f__law_roll) = true)
    (a__law_pick : PySem.W.nsIn K mainGlobals "_law_pick" = some (some (.ref f__law_pick)))
    (l__law_pick : K.lookup f__law_pick = some ⟨oc__law_pick, od__law_pick, .func (PySem.W.fnOf "_law_pick" "_law_pick" (defArgs s__law_pick) (defBody s__law_pick) (defScope s__law_pick) .none kV__law_pick dc__law_pick pm__law_pick an__law_pick cd__law_pick ct__law_pick), sl__law_pick⟩)
    (c__law_pick : PySem.W.codeIn K cd__law_pick "_law_pick" = true)
    (k__law_pick : PySem.W.keepIn K (.ref f__law_pick) = true)
    (a__law_some : PySem.W.nsIn K mainGlobals "_law_some" = some (some (.ref f__law_some)))
    (l__law_some : K.lookup f__law_some = some ⟨oc__law_some, od__law_some, .func (PySem.W.fnOf "_law_some" "_law_some" (defArgs s__law_some) (defBody s__law_some) (defScope s__law_some) .none kV__law_some dc__law_some pm__law_some an__law_some cd__law_some ct__law_some), sl__law_some⟩)
    (c__law_some : PySem.W.codeIn K cd__law_some "_law_some" = true)
    (k__law_some : PySem.W.keepIn K (.ref f__law_some) = true)
    (a__law_is_word : PySem.W.nsIn K mainGlobals "_law_is_word" = some (some (.ref f__law_is_word)))
    (l__law_is_word : K.lookup f__law_is_word = some ⟨oc__law_is_word, od__law_is_word, .func (PySem.W.fnOf "_law_is_word" "_law_is_word" (defArgs s__law_is_word) (defBody s__law_is_word) (defScope s__law_is_word) .none kV__law_is_word dc__law_is_word pm__law_is_word an__law_is_word cd__law_is_word ct__law_is_word), sl__law_is_word⟩)
    (c__law_is_word : PySem.W.codeIn K cd__law_is_word "_law_is_word" = true)
    (k__law_is_word : PySem.W.keepIn K (.ref f__law_is_word) = true)
    (a__law_some_value : PySem.W.nsIn K mainGlobals "_law_some_value" = some (some (.ref f__law_some_value)))
    (l__law_some_value : K.lookup f__law_some_value = some ⟨oc__law_some_value, od__law_some_value, .func (PySem.W.fnOf "_law_some_value" "_law_some_value" (defArgs s__law_some_value) (defBody s__law_some_value) (defScope s__law_some_value) .none kV__law_some_value dc__law_some_value pm__law_some_value an__law_some_value cd__law_some_value ct__law_some_value), sl__law_some_value⟩)
    (c__law_some_value : PySem.W.codeIn K cd__law_some_value "_law_some_value" = true)
    (k__law_some_value : PySem.W.keepIn K (.ref f__law_some_value) = true)
    (a_law : PySem.W.nsIn K mainGlobals "law" = some (some (.ref f_law)))
    (l_law : K.lookup f_law = some ⟨oc_law, od_law, .func (PySem.W.fnOf "law" "law" (defArgs s_law) (defBody s_law) (defScope s_law) .none kV_law dc_law pm_law an_law cd_law ct_law), sl_law⟩)
    (c_law : PySem.W.codeIn K cd_law "law" = true)
    (k_law : PySem.W.keepIn K (.ref f_law) = true)
    (z_abs : PySem.W.nsIn K mainGlobals "abs" = some none)
    (z_all : PySem.W.nsIn K mainGlobals "all" = some none)
    (z_int : PySem.W.nsIn K mainGlobals "int" = some none)
    (z_isinstance : PySem.W.nsIn K mainGlobals "isinstance" = some none)
    (z_len : PySem.W.nsIn K mainGlobals "len" = some none)
    (z_list : PySem.W.nsIn K mainGlobals "list" = some none)
    (z_max : PySem.W.nsIn K mainGlobals "max" = some none)
    (z_min : PySem.W.nsIn K mainGlobals "min" = some none)
    (z_range : PySem.W.nsIn K mainGlobals "range" = some none)
    (z_repr : PySem.W.nsIn K mainGlobals "repr" = some none)
    (z_str : PySem.W.nsIn K mainGlobals "str" = some none)
    (g_MAX_LETTERS : PySem.W.nsIn K mainGlobals "MAX_LETTERS" = some (some (.int 8 t_MAX_LETTERS)))
    (g_GAP : PySem.W.nsIn K mainGlobals "GAP" = some (some (.str "?" t_GAP)))
    (g_VARIABLE : PySem.W.nsIn K mainGlobals "VARIABLE" = some (some (.str "x" t_VARIABLE))) :
    ∃ fd : FuncData, (∀ (s : Shared) (v : Value), BindsTo s fd ⟨[v], []⟩ [("_law_script", v)]) ∧ ∀ base : Heap, K.In base → base.Ns mainGlobals mg → FnOkG l.prog w K mg base CX0 4 fa fd ["_law_script"] (sp_law K) := by
  have e := hfa.symm.trans (PySem.W.mg_of X G a_law)
  cases e
  have T : Txt K mg := ⟨PySem.W.mg_none_of X G z_abs, PySem.W.mg_none_of X G z_all, PySem.W.mg_none_of X G z_int, PySem.W.mg_none_of X G z_isinstance, PySem.W.mg_none_of X G z_len, PySem.W.mg_none_of X G z_list, PySem.W.mg_none_of X G z_max, PySem.W.mg_none_of X G z_min, PySem.W.mg_none_of X G z_range, PySem.W.mg_none_of X G z_repr, PySem.W.mg_none_of X G z_str, ⟨_, PySem.W.mg_of X G g_MAX_LETTERS, ⟨_, rfl⟩⟩, ⟨_, PySem.W.mg_of X G g_GAP, ⟨_, rfl⟩⟩, ⟨_, PySem.W.mg_of X G g_VARIABLE, ⟨_, rfl⟩⟩⟩
  refine ⟨PySem.W.fnOf "law" "law" (defArgs s_law) (defBody s_law) (defScope s_law) .none kV_law dc_law pm_law an_law cd_law ct_law, fun s v => .of_eq rfl, fun base _ _ => ?_⟩
  have F_is_word := fun_mk (st := s_is_word) l_is_word c_is_word k_is_word
  have C_is_word := Cal.of F_is_word (PySem.W.mg_of X G a_is_word) (F_is_word.binds (ps := ["value"]) fun _ _ _ _ _ _ us hl => match us, hl with | [_], _ => rfl) (ok_is_word (P := l.prog) (w := w) (base := base) T F_is_word)
  have F__law_dice := fun_mk (st := s__law_dice) l__law_dice c__law_dice k__law_dice
  have C__law_dice := Cal.of F__law_dice (PySem.W.mg_of X G a__law_dice) (F__law_dice.binds (ps := ["_law_script", "_law_spot"]) fun _ _ _ _ _ _ us hl => match us, hl with | [_, _], _ => rfl) (ok__law_dice (P := l.prog) (w := w) (base := base) T F__law_dice)
  have F__law_roll := fun_mk (st := s__law_roll) l__law_roll c__law_roll k__law_roll
  have C__law_roll := Cal.of F__law_roll (PySem.W.mg_of X G a__law_roll) (F__law_roll.binds (ps := ["_law_dice_here", "_law_total"]) fun _ _ _ _ _ _ us hl => match us, hl with | [_, _], _ => rfl) (ok__law_roll (P := l.prog) (w := w) (base := base) T F__law_roll)
  have F__law_pick := fun_mk (st := s__law_pick) l__law_pick c__law_pick k__law_pick
  have C__law_pick := Cal.of F__law_pick (PySem.W.mg_of X G a__law_pick) (F__law_pick.binds (ps := ["_law_dice_here", "_law_items"]) fun _ _ _ _ _ _ us hl => match us, hl with | [_, _], _ => rfl) (ok__law_pick (P := l.prog) (w := w) (base := base) T C__law_roll F__law_pick)
  have F__law_some := fun_mk (st := s__law_some) l__law_some c__law_some k__law_some
  have C__law_some := Cal.of F__law_some (PySem.W.mg_of X G a__law_some) (F__law_some.binds (ps := ["_law_dice_here", "_law_items", "_law_size"]) fun _ _ _ _ _ _ us hl => match us, hl with | [_, _, _], _ => rfl) (ok__law_some (P := l.prog) (w := w) (base := base) T C__law_roll F__law_some)
  have F__law_is_word := fun_mk (st := s__law_is_word) l__law_is_word c__law_is_word k__law_is_word
  have C__law_is_word := Cal.of F__law_is_word (PySem.W.mg_of X G a__law_is_word) (F__law_is_word.binds (ps := ["_law_value"]) fun _ _ _ _ _ _ us hl => match us, hl with | [_], _ => rfl) (ok__law_is_word (P := l.prog) (w := w) (base := base) T F__law_is_word)
  have F__law_some_value := fun_mk (st := s__law_some_value) l__law_some_value c__law_some_value k__law_some_value
  have C__law_some_value := Cal.of F__law_some_value (PySem.W.mg_of X G a__law_some_value) (F__law_some_value.binds (ps := ["_law_dice_here"]) fun _ _ _ _ _ _ us hl => match us, hl with | [_], _ => rfl) (ok__law_some_value (P := l.prog) (w := w) (base := base) T C__law_roll C__law_pick C__law_some F__law_some_value)
  have F_law := fun_mk (st := s_law) l_law c_law k_law
  exact ok_law (P := l.prog) (w := w) (base := base) T C_is_word C__law_dice C__law_is_word C__law_some_value F_law
end My

open PySem PySem.W PyProof.Rows in
set_option maxRecDepth 100000 in
set_option maxHeartbeats 0 in
theorem PySem.Challenge.cw_fromparts_k01_words_judged_holds : PySem.Challenge.rw_fromparts_k01_words_judged.Holds := by
  w_on; o_law; k_head; (case hw => w_witness2)
  k_fill
  refine My.walk_ofG (l := PySem.Challenge.rw_fromparts_k01_words_judged) (k := 4) (x := "_law_script") (sp := My.sp_law) rfl rfl ⟨rfl, by decide, by decide⟩ (fun w h Y => PySem.W.kIn_of Y) ?F (fun _ _ a ns hl hS => ⟨a, ns, rfl, hS, hl, fun _ => rfl⟩)
  case F =>
    intro w mg fa h KX G hmg
    refine' My.all_mk KX G hmg ?a_is_word ?l_is_word ?c_is_word ?k_is_word ?a__law_dice ?l__law_dice ?c__law_dice ?k__law_dice ?a__law_roll ?l__law_roll ?c__law_roll ?k__law_roll ?a__law_pick ?l__law_pick ?c__law_pick ?k__law_pick ?a__law_some ?l__law_some ?c__law_some ?k__law_some ?a__law_is_word ?l__law_is_word ?c__law_is_word ?k__law_is_word ?a__law_some_value ?l__law_some_value ?c__law_some_value ?k__law_some_value ?a_law ?l_law ?c_law ?k_law ?z_abs ?z_all ?z_int ?z_isinstance ?z_len ?z_list ?z_max ?z_min ?z_range ?z_repr ?z_str ?g_MAX_LETTERS ?g_GAP ?g_VARIABLE
    (case a_is_word => k_is)
    (case l_is_word => k_is)
    (case c_is_word => k_is)
    (case k_is_word => k_is)
    (case a__law_dice => k_is)
    (case l__law_dice => k_is)
    (case c__law_dice => k_is)
    (case k__law_dice => k_is)
    (case a__law_roll => k_is)
    (case l__law_roll => k_is)
    (case c__law_roll => k_is)
    (case k__law_roll => k_is)
    (case a__law_pick => k_is)
    (case l__law_pick => k_is)
    (case c__law_pick => k_is)
    (case k__law_pick => k_is)
    (case a__law_some => k_is)
    (case l__law_some => k_is)
    (case c__law_some => k_is)
    (case k__law_some => k_is)
    (case a__law_is_word => k_is)
    (case l__law_is_word => k_is)
    (case c__law_is_word => k_is)
    (case k__law_is_word => k_is)
    (case a__law_some_value => k_is)
    (case l__law_some_value => k_is)
    (case c__law_some_value => k_is)
    (case k__law_some_value => k_is)
    (case a_law => k_is)
    (case l_law => k_is)
    (case c_law => k_is)
    (case k_law => k_is)
    (case z_abs => k_is)
    (case z_all => k_is)
    (case z_int => k_is)
    (case z_isinstance => k_is)
    (case z_len => k_is)
    (case z_list => k_is)
    (case z_max => k_is)
    (case z_min => k_is)
    (case z_range => k_is)
    (case z_repr => k_is)
    (case z_str => k_is)
    (case g_MAX_LETTERS => k_is)
    (case g_GAP => k_is)
    (case g_VARIABLE => k_is)

