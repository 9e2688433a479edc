import PyProof.Rows.All
import Wide.All
import OpenK.AllK
import Wide.FinOn
import HandS.ForMost
import HandS.IsInst
import HandS.Steps
import HandS.Property
import HandS.ClsMeth
import HandS.FStr
import PyProof.ListStr
import PyProof.CallFns
import PyProof.Rows.RuleB_pow
import HandS.Sort
import KE.GoesEnum
import KE.GoesMore
import HandS.Iter
import HandS.SetTxt0
import HandS.SetFor
import HandS.Strs
import KE.KOpsOwn
import OpenK.KMeth
import HandS.RaiseMore
import KE.KCallOwn
import HandS.Style
import HandS.Flow
import HandS.ListItems
import PyProof.ExcBaseAll.ValueError
import HandS.WordsExc
import HandS.TryOnly
import PyProof.P3Eq
import HandS.Conv
import HandS.More
import HandS.TupMul
import HandS.TupAny
import HandS.DeepEq
import PySem.Challenge.RW_fromparts_k18_nodes_judged
set_option Elab.async false
set_option linter.all false
set_option maxRecDepth 100000
set_option maxHeartbeats 2000000
namespace My
open PySem PySem.Spec PyProof.Rows L2 TL
/-! ### defs called where no repr is under way: what A.guards says is handed down -/
structure FnOkG (P : Program) (w : World) (K : PySem.W.Frag) (mg : Str → Option Value) (base : Heap) (CX : CXT) (k : Nat) (f : Addr) (fd : FuncData) (ps : List Str) (sp : Sp) : Prop where
  arity : ∀ vs H Q E, sp vs H Q E → vs.length = ps.length
  go : ∀ (B : Around) (fr : List Env) (t : Shared) (H : Hp) (ar : Args) (us : List Value) (vs : List V) (Q : VK) (E : XK), Room k B → B.guards = some [] → Env0 P w K mg base B fr t H → BindsTo t fd ar (ps.zip us) → Vals vs us → sp vs H Q E →
    codeAny (model P w) B (.call (.ref f) ar) (CR CX fr P w H t Q E) t
theorem FnOkG.lift {P : Program} {w : World} {K : PySem.W.Frag} {mg : Str → Option Value} {base : Heap} {CX : CXT} {k : Nat} {f : Addr} {fd : FuncData} {ps : List Str} {sp : Sp}
    (F : FnOk P w K mg base CX k f fd ps sp) : FnOkG P w K mg base CX k f fd ps sp := ⟨F.len, fun B fr t H ar us vs Q E hr _ => F.run B fr t H ar us vs Q E hr⟩
section
variable {P : Program} {w : World} {K : PySem.W.Frag} {mg : Str → Option Value} {base : Heap}
theorem _root_.L2.Fun.okG {CX : CXT} {x qual : Str} {st : Stmt} {f : Addr} {fd : FuncData} {N ps : List Str} {k : Nat} {sp : Sp} (F : Fun K x qual st f fd) (S : FnScope N ps (defScope st)) (ar : ∀ vs H Q E, sp vs H Q E → vs.length = ps.length)
    (body : ∀ (cv : Value) (B : Around) (fr : List Env) (t : Shared) (H : Hp) (vs : List V) (Q : VK) (E : XK), Room k (B.deeper (envOfC qual (defScope st) t.heap.objs.size f cv)) → (B.deeper (envOfC qual (defScope st) t.heap.objs.size f cv)).guards = some [] → sp vs H Q E →
      ∃ r, PSs (cxOf CX P w K mg base N qual (defScope st) f cv B fr t H E).nox (defBody st) r ∧ r { nx := fun _ H' => Q .non H', rt := Q } (start N vs) H) : FnOkG P w K mg base CX (k + 1) f fd ps sp := by
  obtain ⟨oc, od, kV, doc, pm, an, cv, ct, osl, rfl, found, isCode⟩ := F.ex
  refine ⟨ar, fun B fr t H args us vs Q E room still env binds vals wish => ?_⟩
  have there : K.In t.heap := env.mod.kin.keeps (fun b o e => (env.bs b o e).1)
  have noLim : t.heap.NoLimit := env.mod.nolimit.keeps (fun b o e => (env.bs b o e).1)
  have kinds : ∀ y ∈ ps.zip us, (defScope st).names.lookup y.1 = some .local ∨ ((defScope st).names.lookup y.1 = some .cell ∧ ((cellsFrom (t.heap.objs.size + 1) (defScope st).names []).lookup y.1).isSome = true) := by
    rintro ⟨n, v⟩ hy
    exact (S.par n (List.of_mem_zip hy).1).imp id fun q => ⟨q, PySem.W.cellsFrom_some _ _ _ (.inl q)⟩
  refine codeAny_call_function room.depth (there _ _ found)
    rfl S.co S.gen rfl (PySem.W.codeRec_of there isCode) (binds _ _ _ _
      (wpAny_newFunctionEnv_cells S.kind kinds fun env' eq t1 start1 => ?_))
  subst eq
  refine ⟨noLim.keeps start1.toInCall.keep, codeAny_func ?_⟩
  obtain ⟨r, runs, ends⟩ := body cv B fr t H vs Q E (room.deeper _) still wish
  refine wpAny_mono (runs.nox.run [] t1 (start N vs) H _ (inv_start S room.hd env (ar _ _ _ _ wish) vals start1) ends) ?_ fun _ _ z => z
  intro fl t2 got
  cases fl with
  | ret u =>
    obtain ⟨v, σ', H', J, rv, q⟩ := got
    exact ⟨v, H', J.os, J.bare, J.base, J.hok, rv, q⟩
  | next =>
    obtain ⟨σ', H', J, q⟩ := got
    exact ⟨V.non, H', J.os, J.bare, J.base, J.hok, rfl, q⟩
  | brk => exact got.choose_spec.choose_spec.2.elim
  | cont => exact got.choose_spec.choose_spec.2.elim
end
/-! ### defs by their promises -/
structure Cal (P : Program) (w : World) (K : PySem.W.Frag) (mg : Str → Option Value) (base : Heap) (x : Str) (k : Nat) (ps : List Str) (sp : Sp) : Prop where
  ex : ∃ f fd, FnOkG P w K mg base CX0 k f fd ps sp ∧ mg x = some (.ref f) ∧ PySem.W.keepIn K (.ref f) = true ∧ Binds K fd ps []
theorem Cal.of {P : Program} {w : World} {K : PySem.W.Frag} {mg : Str → Option Value} {base : Heap} {x q : Str} {k : Nat} {ps : List Str} {sp : Sp} {st : Stmt} {f : Addr} {fd : FuncData}
    (F : Fun K x q st f fd) (hm : mg x = some (.ref f)) (hb : Binds K fd ps []) (ok : FnOkG P w K mg base CX0 k f fd ps sp) : Cal P w K mg base x k ps sp := ⟨f, fd, ok, hm, F.kp, hb⟩
section
variable {X : Cx} {k : Nat} {f : Addr} {fd : FuncData} {ps : List Str} {sp : Sp} {ds : List Value} {dvs : List V} {E : XK} {CX : CXT}
/-- the callee runs, no repr under way -/
theorem run_fnG {pins : List (Addr × Obj)} {σ : L2.St} {H : Hp} {s : Shared} {Q : VK} {us : List Value} {vs : List V} (F : FnOkG X.prog X.w X.K X.mg X.base CX k f fd ps sp) (room : Room k X.A) (still : X.A.guards = some [])
    (binds : Binds X.K fd ps ds) (dv : Vals dvs ds) (pass : Passes CX X E) (I : Inv X pins σ H s) (rel : Vals vs us) (wish : sp (vs ++ dvs) H Q E) : wpAny (model X.prog X.w) X.A (call (.ref f) us) (EP X pins σ Q) X.xe s := by
  have both := rel.append dv
  have len : (us ++ ds).length = ps.length := both.length.symm.trans (F.arity _ _ _ _ wish)
  have ran := F.go X.A X.stack s H ⟨us, []⟩ (us ++ ds) (vs ++ dvs) Q E room still I.env0 (binds s us I.kIn len) both wish
  refine wpAny_call (codeAny_mono ran ?_)
  intro r s' h
  match r, h with
  | .error e, h => exact pass pins σ H s e s' I h
  | .ok (.ret u), h => exact I.after h
  | .ok .next, h => exact False.elim h
  | .ok .brk, h => exact False.elim h
  | .ok .cont, h => exact False.elim h
end
section
variable {X : Cx} {x : Str} {k : Nat} {ps : List Str} {sp : Sp} {e : Expr} {es : List Expr} {t : TA} {p pos : Pos}
theorem pe_callC (C : Cal X.prog X.w X.K X.mg X.base x k ps sp) (room : Room k X.A) (still : X.A.guards = some []) (hg : Gl X x) (ha : PA X (e :: es) t) (hdb : (x == ("__debug__" : Str)) = false := by decide)
    (he : starEach (e :: es) X.env = (false, eval e X.env) :: starEach es X.env := by rfl) (hpl : (backTo pos (starEach es X.env)).any (·.1) = false := by rfl) :
    PE X (.Call (.Name x p) (e :: es) [] pos) (tCall sp [] E0 t) := by
  obtain ⟨f, fd, ok, hm, kp, hb⟩ := C.ex
  refine ⟨fun pins s σ H Q I h => wpAny_Call_Name_kw (ld_glob I hg hm ?_ hdb)⟩
  have args := thn (ha.run pos pins s σ H _ I h) (Q' := fun us s1 => X.K.In s1.heap ∧ wpAny (model X.prog X.w) X.A (call (.ref f) us) (EP X pins σ Q) X.xe s1) fun us s1 ⟨vs, H1, I1, r, q⟩ =>
    ⟨I1.kIn, run_fnG ok room still hb .nil pass0 I1 r q⟩
  exact PySem.W.callWith_K (h₀ := X.base) I.ok.mod.kin kp args he hpl
theorem pe_globE {x : Str} {v : V} (hg : Gl X x) (h : ∃ u, X.mg x = some u ∧ RelV v u) (hd : (x == ("__debug__" : Str)) = false := by decide) : PE X (.Name x pos) (tC v) := by
  obtain ⟨u, hm, r⟩ := h
  exact pe_glob hg hm r hd
theorem op_powW : OpR X (binaryOp .Pow) (rI (fun i j => 0 ≤ j ∧ (Builtin.Int.intBits i : Int) * j ≤ 2 ^ 27) fun i j => .int (i ^ j.toNat)) := opI fun _ _ _ _ _ _ _ hc q => PyProof.Rows.pow_int hc.1 hc.2 q
theorem call_repr_bl : CallR X (.builtin "repr") (fun xs H Q => ∃ b, xs = [.bl b] ∧ Q (.str (if b then "True" else "False")) H) := by
  intro pins s σ H xs us Q I r h
  obtain ⟨b, rfl, q⟩ := h
  obtain ⟨u, rfl, r1⟩ := vals1 r
  cases r1
  exact PySem.P.repr_of_bool ⟨.str _, H, I.tok _, ⟨_, rfl⟩, q⟩
def sgnV (x : Str) : List V := x.cps.toList.map fun c => V.str ⟨#[c]⟩
theorem vals_signs : ∀ (l : List Nat) (ys : List Value), ys.length = l.length → (∀ (j : Nat) (v : Value), ys[j]? = some v → ∃ c u, l[j]? = some c ∧ v = .str ⟨#[c]⟩ u) → Vals (l.map fun c => V.str ⟨#[c]⟩) ys
  | [], [], _, _ => .nil
  | [], _ :: _, h, _ => by simp at h
  | _ :: _, [], h, _ => by simp at h
  | c :: l, y :: ys, h, f => by
    obtain ⟨c', u, e1, e2⟩ := f 0 y rfl
    have e3 : c = c' := Option.some.inj e1
    subst e3
    exact .cons ⟨u, e2⟩ (vals_signs l ys (by simpa using h) fun j v e => f (j + 1) v e)
theorem call_list_text (hc : X.calm = true) : CallR X (.type "list") (fun xs H Q => ∃ x : Str, xs = [.str x] ∧ x.length ≤ sizeLine ∧ ∀ l, H l = none → Q (.ref l) (upd H l (.lst (sgnV x)))) := by
  intro pins s σ H xs us Q I r h
  obtain ⟨x, rfl, hz, q⟩ := h
  obtain ⟨u, rfl, t, rfl⟩ := vals1 r
  refine call_list_str (hn := hz) (I.ok.hd hc) x t fun h' tk acc' c' hk hS' hacc => ?_
  have hv : Vals (sgnV x) acc'.toList := vals_signs _ _ (by simp [hacc.1]) fun j v e => by
    obtain ⟨c, u, h1, h2⟩ := hacc.2 j v (by simpa using e)
    exact ⟨c, u, by simpa using h1, h2⟩
  exact ⟨.ref s.heap.objs.size, _, I.laid (t' := tk) hk (Nat.le_refl _) (show ObjOk X.prog X.w _ h' _ (.lst (sgnV x)) from ⟨by simp [sgnV]; exact hz, acc'.toList, c', hv, by simpa using hS'⟩), rfl, q _ (I.hok.fresh (Nat.le_refl _))⟩
end
/-! ### heaps: all stands but the dice -/
def Ext (d : Addr) (H H' : Hp) : Prop := ∀ a o, a ≠ d → H a = some o → H' a = some o
theorem Ext.refl {d : Addr} (H : Hp) : Ext d H H := fun _ _ _ h => h
theorem Ext.trans {d : Addr} {H H1 H2 : Hp} (a : Ext d H H1) (b : Ext d H1 H2) : Ext d H H2 := fun x o n h => b x o n (a x o n h)
theorem Ext.new {d : Addr} {H H1 : Hp} (a : Ext d H H1) {p : Addr} {o : HO} (h : H1 p = none) : Ext d H (upd H1 p o) := fun x u n e => by
  rw [upd_ne (ne_of_none (a x u n e) h)]
  exact a x u n e
theorem Ext.same {d : Addr} {H H' : Hp} (h : Same H H') : Ext d H H' := fun a o _ e => h a o e
theorem Ext.set {d : Addr} {H : Hp} {o : HO} : Ext d H (upd H d o) := fun a u n e => by
  rw [upd_ne n]
  exact e
theorem Ext.mut {d : Addr} {H H1 : Hp} (a : Ext d H H1) {p : Addr} {o : HO} (h : H p = none) : Ext d H (upd H1 p o) := fun x u n e => by
  rw [upd_ne (ne_of_none e h)]
  exact a x u n e
theorem Ext.none {d : Addr} {H H' : Hp} (e : Ext d H H') {l : Addr} (n : l ≠ d) (h : H' l = Option.none) : H l = Option.none := by
  cases q : H l with
  | none => rfl
  | some o =>
    rw [e l o n q] at h
    cases h
theorem _root_.L2.Same.new {H H1 : Hp} (a : Same H H1) {p : Addr} {o : HO} (h : H1 p = none) : Same H (upd H1 p o) := fun x u e => by
  rw [upd_ne (ne_of_none (a x u e) h)]
  exact a x u e
theorem _root_.L2.Same.mut {H H1 : Hp} (a : Same H H1) {p : Addr} {o : HO} (h : H p = none) : Same H (upd H1 p o) := fun x u e => by
  rw [upd_ne (ne_of_none e h)]
  exact a x u e
def IsDice (H : Hp) (d : Addr) : Prop := ∃ a b c : Int, H d = some (.lst [.int a, .int b, .int c])
theorem IsDice.some {H : Hp} {d : Addr} (h : IsDice H d) : ∃ o, H d = Option.some o := ⟨_, h.choose_spec.choose_spec.choose_spec⟩
theorem IsDice.ne {H : Hp} {d l : Addr} (h : IsDice H d) (n : H l = none) : l ≠ d := by
  obtain ⟨o, e⟩ := h.some
  exact fun z => by
    rw [z, e] at n
    cases n
theorem IsDice.new {H : Hp} {d p : Addr} {o : HO} (h : IsDice H d) (n : H p = none) : IsDice (upd H p o) d := by
  have hn := h.ne n
  obtain ⟨a, b, c, e⟩ := h
  exact ⟨a, b, c, by rw [upd_ne hn.symm]; exact e⟩
theorem IsDice.mut {H : Hp} {d p : Addr} {o : HO} (h : IsDice H d) (n : p ≠ d) : IsDice (upd H p o) d := by
  obtain ⟨a, b, c, e⟩ := h
  exact ⟨a, b, c, by rw [upd_ne n.symm]; exact e⟩
theorem IsDice.same {H H' : Hp} {d : Addr} (h : IsDice H d) (s : Same H H') : IsDice H' d := by
  obtain ⟨a, b, c, e⟩ := h
  exact ⟨a, b, c, s _ _ e⟩
/-- where lists stand -/
theorem sql_ext {K : PySem.W.Frag} {H H' : Hp} {d a : Addr} {xs : List V} (e : Ext d H H') (n : a ≠ d) (h : SqL K H a xs) : SqL K H' a xs := by
  rcases h with (h | ⟨o, h⟩) | h
  · exact .inl (.inl (e _ _ n h))
  · exact .inl (.inr ⟨o, e _ _ n h⟩)
  · exact .inr h
theorem lt_line {n : Nat} (h : n ≤ 1000000) : n ≤ sizeLine := Nat.le_trans h (by decide)
theorem lt_line' {n : Nat} (h : n < 1000000) : n < sizeLine := Nat.lt_of_lt_of_le h (by decide)
/-! ### the dice's promises -/
/-- a new dice; the list of the script, an index -/
def sp__law_dice (K : PySem.W.Frag) : Sp := fun vs H Q _ => ∃ (a : Addr) (ns : List Int) (i : Int), vs = [.ref a, .int i] ∧ SqL K H a (ns.map V.int) ∧ 0 ≤ i ∧ i < 64 ∧
  ∀ d o, H d = none → IsDice (upd H d o) d → Q (.ref d) (upd H d o)
def sp__law_roll (_ : PySem.W.Frag) : Sp := fun vs H Q _ => ∃ (d : Addr) (n : Int), vs = [.ref d, .int n] ∧ IsDice H d ∧ 0 < n ∧ n < 1073741824 ∧
  ∀ r H', 0 ≤ r → r < n → Ext d H H' → IsDice H' d → Q (.int r) H'
def sp__law_pick (K : PySem.W.Frag) : Sp := fun vs H Q _ => ∃ (d l : Addr) (xs : List V), vs = [.ref d, .ref l] ∧ IsDice H d ∧ SqL K H l xs ∧ l ≠ d ∧ xs ≠ [] ∧ xs.length < 1000000 ∧
  ∀ x H', x ∈ xs → Ext d H H' → IsDice H' d → Q x H'
def sp__law_some (K : PySem.W.Frag) : Sp := fun vs H Q _ => ∃ (d l : Addr) (xs : List V) (n : Int), vs = [.ref d, .ref l, .int n] ∧ IsDice H d ∧ SqL K H l xs ∧ l ≠ d ∧ xs.length < 1000000 ∧ 0 ≤ n ∧
  ∀ p ys H', (∀ y ∈ ys, y ∈ xs) → ys.length ≤ xs.length → H p = none → p ≠ d → H' p = some (.lst ys) → Ext d H H' → IsDice H' d → Q (.ref p) H'
/-! ### a comprehension over a text -/
theorem lc_txt {x : Str} {g : TG} {tt : TT} {te : TE} {vs : List Nat} {σ : L2.St} {H1 : Hp} {D : Addr} {Qd : Hp → Prop} (Pv : Nat → Hp → Prop) (h0 : Pv 0 (upd H1 D (.lst [])))
    (hs : ∀ i c H, x.cps.toList[i]? = some c → Pv i H → g (.str ⟨#[c]⟩) (wipe σ vs) H fun σ2 H2 => wipe σ2 vs = wipe σ vs ∧ tt σ2 H2 fun b H3 =>
      if b = true then te σ2 H3 fun y H4 => ∃ acc, H4 D = some (.lst acc) ∧ acc.length < sizeLine ∧ Pv (i + 1) (upd H4 D (.lst (acc ++ [y]))) else Pv (i + 1) H3) (hd : ∀ H, Pv x.cps.toList.length H → Qd H) :
    ∃ W : Nat → Nat → Hp → Prop, (∃ m, W 0 m (upd H1 D (.lst []))) ∧ ∀ i m H, W i m H →
      ((Its x).stop i H ∧ Qd H) ∨ ((Its x).go i H ∧ ∃ Nx : Hp → Prop, (∀ H', Nx H' → ∃ m', m' < m ∧ W (i + 1) m' H') ∧ ∀ v H', (Its x).yld i H v H' → g v (wipe σ vs) H' fun σ2 H2 => wipe σ2 vs = wipe σ vs ∧ tt σ2 H2 fun b H3 =>
        if b = true then te σ2 H3 fun y H4 => ∃ acc, H4 D = some (.lst acc) ∧ acc.length < sizeLine ∧ Nx (upd H4 D (.lst (acc ++ [y]))) else Nx H3) := by
  refine ⟨fun i m H => m = x.cps.size - i ∧ i ≤ x.cps.size ∧ Pv i H, ⟨x.cps.size, by simp, Nat.zero_le _, h0⟩, ?_⟩
  rintro i m H ⟨rfl, hi, p⟩
  by_cases hlt : i < x.cps.size
  · refine .inr ⟨hlt, Pv (i + 1), fun H' p' => ⟨x.cps.size - (i + 1), by omega, rfl, hlt, p'⟩, fun v H' y => ?_⟩
    obtain ⟨e, c, ec, ev⟩ := y
    subst e ev
    exact hs i c _ (by simpa using ec) p
  · have e : i = x.cps.size := by omega
    exact .inl ⟨by show x.cps.size ≤ i; omega, hd H (by rw [e] at p; simpa using p)⟩
/-- flat data -/
theorem shaped_flat {ds : List PyData} (h : ∀ d ∈ ds, d.canLay0 = true ∧ d.depth = 0) : SeqAt.shaped (.list ds) = true ∧ SeqAt.shaped (.tuple ds) = true := by
  have a : ∀ ds : List PyData, (∀ d ∈ ds, d.canLay0 = true ∧ d.depth = 0) → PyData.canLayAll0 ds = true ∧ PyData.depthAll ds = 0 := by
    intro ds
    induction ds with
    | nil => intro _; exact ⟨rfl, rfl⟩
    | cons d r ih =>
      intro h
      have h1 := h d (List.mem_cons_self ..)
      have h2 := ih fun x hx => h x (List.mem_cons_of_mem _ hx)
      exact ⟨by rw [PyData.canLayAll0, h1.1, h2.1]; rfl, by rw [PyData.depthAll, h1.2, h2.2]; rfl⟩
  obtain ⟨a1, a2⟩ := a ds h
  constructor <;> (unfold SeqAt.shaped; rw [PyData.canLay0, PyData.depth, a1, a2]; rfl)
theorem strOk_ascii {x : Str} (h : ∀ c ∈ x.cps.toList, c < 128) : PyData.strOk x = true := by
  unfold PyData.strOk
  rw [← Array.all_toList]
  exact List.all_eq_true.mpr fun c hc => by
    have := h c hc
    simp
    omega
/-! ### comprehensions whose parts speak of the place where they stand -/
section
variable {X : Cx}
abbrev Dep (α : Type) := Shared → Hp → Addr → List (Str × Addr) → List Addr → α
abbrev Dep.at {α : Type} (t : Dep α) (X : Cx) : α := t X.s_0 X.H_0 0 [] []
theorem pe_lcD {elt tg iter : Expr} {ifs : List Expr} {scope : Scope} {own : List (Str × Nat)} {pos : Pos} {wi : TI} {g : Dep TG} {tt : Dep TT} {te : Dep TE} (hc : X.calm = true) (hN : X.N.Nodup) (hi : PI X tg iter wi) (ok : BlkOk X.N X.env.scope scope own)
    (hg : ∀ (s : Shared) (H : Hp) (C : Addr) (cl : List (Str × Addr)) (fp : List Addr), PG (X.blk s H scope (compEnvC scope cl C X.env) fp) tg (g s H C cl fp)) (ht : ∀ (s : Shared) (H : Hp) (C : Addr) (cl : List (Str × Addr)) (fp : List Addr), PTs (X.blk s H scope (compEnvC scope cl C X.env) fp) ifs (tt s H C cl fp))
    (he : ∀ (s : Shared) (H : Hp) (C : Addr) (cl : List (Str × Addr)) (fp : List Addr), PE (X.blk s H scope (compEnvC scope cl C X.env) fp) elt (te s H C cl fp)) (hs : ∀ x, foldedSetIterable iter X.env x = pure x := by intro _; rfl)
    (eg : ∀ s H C cl fp, g s H C cl fp = g.at X := by intros; rfl) (et : ∀ s H C cl fp, tt s H C cl fp = tt.at X := by intros; rfl) (ee : ∀ s H C cl fp, te s H C cl fp = te.at X := by intros; rfl) :
    PE X (.ListComp elt [⟨tg, iter, ifs, 0⟩] scope pos) (tLc wi (g.at X) (tt.at X) (te.at X) (own.map (·.2))) :=
  pe_lc hc hN hi ok (fun s H C cl fp => eg s H C cl fp ▸ hg s H C cl fp) (fun s H C cl fp => et s H C cl fp ▸ ht s H C cl fp) (fun s H C cl fp => ee s H C cl fp ▸ he s H C cl fp) hs
theorem ps_setLcD {i : Nat} {y : Str} {py : Pos} {elt tg iter : Expr} {ifs : List Expr} {scope : Scope} {own : List (Str × Nat)} {pos spos : Pos} {wi : TI} {g : Dep TG} {tt : Dep TT} {te : Dep TE} (hc : X.calm = true) (hN : X.N.Nodup) (hy : X.N[i]? = some y) (hyl : X.env.scope.names.lookup y = some .local)
    (hsw : swapsWith (.ListComp elt [⟨tg, iter, ifs, 0⟩] scope pos) (some (.Name y py)) spos.line X.env = pure true) (hi : PI X tg iter wi) (ok : BlkOk X.N X.env.scope scope own)
    (hg : ∀ (s : Shared) (H : Hp) (C : Addr) (cl : List (Str × Addr)) (fp : List Addr), PG (X.blk s H scope (compEnvC scope cl C X.env) fp) tg (g s H C cl fp)) (ht : ∀ (s : Shared) (H : Hp) (C : Addr) (cl : List (Str × Addr)) (fp : List Addr), PTs (X.blk s H scope (compEnvC scope cl C X.env) fp) ifs (tt s H C cl fp))
    (he : ∀ (s : Shared) (H : Hp) (C : Addr) (cl : List (Str × Addr)) (fp : List Addr), PE (X.blk s H scope (compEnvC scope cl C X.env) fp) elt (te s H C cl fp)) (hs : ∀ x, foldedSetIterable iter X.env x = pure x := by intro _; rfl)
    (eg : ∀ s H C cl fp, g s H C cl fp = g.at X := by intros; rfl) (et : ∀ s H C cl fp, tt s H C cl fp = tt.at X := by intros; rfl) (ee : ∀ s H C cl fp, te s H C cl fp = te.at X := by intros; rfl) :
    PS X (.Assign [.Name y py] (.ListComp elt [⟨tg, iter, ifs, 0⟩] scope pos) spos) (tAsg (tLc wi (g.at X) (tt.at X) (te.at X) (own.map (·.2))) (gName i)) :=
  ps_setLc hc hN hy hyl hsw hi ok (fun s H C cl fp => eg s H C cl fp ▸ hg s H C cl fp) (fun s H C cl fp => et s H C cl fp ▸ ht s H C cl fp) (fun s H C cl fp => ee s H C cl fp ▸ he s H C cl fp) hs
end
theorem tyes {σ : L2.St} {H : Hp} {A B : Hp → Prop} (h : A H) : tYes σ H (fun b H3 => if b = true then A H3 else B H3) := by
  show (if true = true then A H else B H)
  exact iteT h
/-- the law -/
def sp_law (K : PySem.W.Frag) : Sp := fun vs H Q _ => ∃ (a : Addr) (ns : List Int), vs = [.ref a] ∧ SqL K H a (ns.map V.int) ∧ ns.length ≤ 63 ∧ ∀ H', Q (.bl true) H'
theorem same_ext {H H1 H2 : Hp} {d : Addr} (s : Same H H1) (n : H d = none) (e : Ext d H1 H2) : Same H H2 := fun a o h => e a o (ne_of_none h n) (s a o h)
/-- how many cells the law looks at -/
theorem cells_ok {n : Nat} (h : n ≤ 63) : ∀ j : Int, j = (if (if (n : Int) < 8 then (n : Int) else 8) > 1 then (if (n : Int) < 8 then (n : Int) else 8) else 1) → 1 ≤ j ∧ j ≤ 8 := by
  intro j e
  by_cases h1 : (n : Int) < 8
  · rw [if_pos h1] at e
    by_cases h2 : (n : Int) > 1
    · rw [if_pos h2] at e
      omega
    · rw [if_neg h2] at e
      omega
  · rw [if_neg h1] at e
    rw [if_pos (by decide)] at e
    omega
theorem mem_strs {m : List Str} {x : V} (h : x ∈ m.map V.str) : ∃ y ∈ m, x = .str y := by
  obtain ⟨y, h1, h2⟩ := List.mem_map.mp h
  exact ⟨y, h1, h2.symm⟩
theorem dp_signs {K : PySem.W.Frag} {H : Hp} : ∀ l : List Nat, DpAll K H (l.map fun c => V.str ⟨#[c]⟩) (l.map fun c => PyData.str ⟨#[c]⟩)
  | [] => .nil
  | _ :: l => .cons (.str _) (dp_signs l)
theorem dp_bls {K : PySem.W.Frag} {H : Hp} : ∀ l : List Bool, DpAll K H (l.map V.bl) (l.map PyData.bool)
  | [] => .nil
  | _ :: l => .cons (.bl _) (dp_bls l)
theorem take_next {α : Type} {l : List α} {i : Nat} {x : α} (h : l[i]? = some x) : l.take (i + 1) = l.take i ++ [x] := by
  rw [List.take_add_one, h]
  rfl
theorem lt_of_get {α : Type} {l : List α} {i : Nat} {x : α} (h : l[i]? = some x) : i < l.length := (List.getElem?_eq_some_iff.mp h).1
theorem lex1 (a b : Nat) : decide ([a] < [b]) = decide (a < b) := by
  by_cases h : a < b
  · rw [decide_eq_true h]
    exact decide_eq_true (List.Lex.rel h)
  · rw [decide_eq_false h]
    refine decide_eq_false fun z => ?_
    cases z with
    | rel h' => exact h h'
    | cons h' => cases h'
/-! ### the law's call -/
section
variable {P : Program} {w : World} {K : PySem.W.Frag} {mg mb : Str → Option Value} {CX : CXT} {k : Nat} {fa a : Addr} {fd : FuncData} {x : Str} {sp : Sp} {t : Shared} {items : List Value} {ns : List Int}
/-- the law's call at an abstract heap that knows nothing but, perhaps, the script -/
theorem call_from (inK : K.In t.heap) (glob : t.heap.Ns mainGlobals mg) (blt : t.heap.Ns builtinsNs mb) (bltBoot : ∀ x : Str, x ≠ "__name__" → mb x = bootBuiltins x) (noLim : t.heap.NoLimit) (noGens : t.gens = #[])
    (script : t.heap.get? a = some { cls := .type "list", data := .seq items.toArray }) (room : Room k callerA)
    (F : ∀ base : Heap, K.In base → base.Ns mainGlobals mg → FnOkG P w K mg base CX k fa fd [x] sp) (binds : ∀ (s : Shared) (u : Value), BindsTo s fd ⟨[u], []⟩ [(x, u)])
    (none' : ∀ H e s', CX [] H t (fun _ _ _ => False) e s' → False)
    (H : Hp) (only : Only H) (fine : HOk P w H t.heap) (atA : ∀ b, H b ≠ none → b = a ∧ K.lookup a = none) (wish : sp [.ref a] H (fun v _ => v = .bl true) fun _ _ _ => False) :
    codeAny (model P w) callerA (.call (.ref fa) ⟨[.ref a], []⟩) (fun r s' => r = .ok (.ret (.bool true)) ∧ OldK t.heap s'.heap ∧ s'.os = t.os ∧ AllBare s'.gens) t := by
  -- what is no list stays in sight when the script is hidden
  have free : ∀ {b : Addr} {o : Obj}, t.heap.get? b = some o → (b = a → K.lookup a ≠ none ∨ ∃ es ep, o.data = .dict es ep) → H b = none := by
    intro b o e h
    by_cases q : H b = none
    · exact q
    · obtain ⟨rfl, kn⟩ := atA b q
      rcases h rfl with h | ⟨es, ep, h⟩
      · exact absurd kn h
      · rw [script] at e
        cases e
        cases h
  have names : ∀ {b : Addr} {m : Str → Option Value}, t.heap.Ns b m → (hidT t.heap H).Ns b m := by
    rintro b m ⟨o, es, ep, e, d, r⟩
    exact ⟨o, es, ep, hidT_get e (free e fun _ => .inr ⟨es, ep, d⟩), d, r⟩
  have inB : K.In (hidT t.heap H) := fun b o e => hidT_get (inK b o e) (free (inK b o e) fun q => .inl (by
    subst q
    rw [e]
    exact fun z => nomatch z))
  have module : Mod K mg (hidT t.heap H) := by
    obtain ⟨mc, l1, l2⟩ := noLim
    exact ⟨inB, names glob, ⟨mb, names blt, bltBoot⟩, ⟨mc, names l1, l2⟩⟩
  have ground : Env0 P w K mg (hidT t.heap H) callerA [] t H := by
    refine ⟨rfl, module, fun b o e => of_hidT e, ?_, trivial, ?_, fine, .of_eq noGens⟩
    · exact Nat.le_of_eq (hidT_size t.heap H)
    · intro b hb
      cases hb
  have ran := (F _ inB (names glob)).go callerA [] t H ⟨[.ref a], []⟩ [.ref a] [.ref a] (fun v _ => v = .bl true) (fun _ _ _ => False) room rfl ground (binds t (.ref a)) (.cons rfl .nil) wish
  refine codeAny_mono ran ?_
  intro r s' h
  match r, h with
  | .error e, h => exact (none' H e s' h).elim
  | .ok .next, h => exact False.elim h
  | .ok .brk, h => exact False.elim h
  | .ok .cont, h => exact False.elim h
  | .ok (.ret u), h =>
    obtain ⟨v, H', os, bare, un, fine', rel, rfl⟩ := h
    cases (show u = Value.bool true from rel)
    refine ⟨rfl, OldK.of_keep ?_, os, bare⟩
    intro b o e
    cases q : H b with
    | none => exact un.keep b o e q (fun z => nomatch z) (fun z => nomatch z)
    | some u =>
      rcases only b with z | ⟨ob, xs, z⟩
      · exact absurd (z.symm.trans q) (fun y => nomatch y)
      · have before := (fine b _ z).1
        have behind := (fine' b _ (un.frzs b ob _ z)).1
        rw [e] at before
        cases before
        exact behind
theorem law_callG (inK : K.In t.heap) (glob : t.heap.Ns mainGlobals mg) (blt : t.heap.Ns builtinsNs mb) (bltBoot : ∀ x : Str, x ≠ "__name__" → mb x = bootBuiltins x) (noLim : t.heap.NoLimit) (noGens : t.gens = #[])
    (script : t.heap.get? a = some { cls := .type "list", data := .seq items.toArray }) (areInts : IntsAre items ns) (short : ns.length ≤ sizeLine) (room : Room k callerA)
    (F : ∀ base : Heap, K.In base → base.Ns mainGlobals mg → FnOkG P w K mg base CX k fa fd [x] sp) (binds : ∀ (s : Shared) (u : Value), BindsTo s fd ⟨[u], []⟩ [(x, u)])
    (none' : ∀ H e s', CX [] H t (fun _ _ _ => False) e s' → False) (wish : ∀ H : Hp, Only H → SqL K H a (ns.map V.int) → sp [.ref a] H (fun v _ => v = .bl true) fun _ _ _ => False) :
    codeAny (model P w) callerA (.call (.ref fa) ⟨[.ref a], []⟩) (fun r s' => r = .ok (.ret (.bool true)) ∧ OldK t.heap s'.heap ∧ s'.os = t.os ∧ AllBare s'.gens) t := by
  have vals := vals_ints areInts
  cases kn : K.lookup a with
  | some o =>
    have o' := inK a o kn
    rw [script] at o'
    cases o'
    have o1 : Only fun _ => none := fun _ => .inl rfl
    refine call_from inK glob blt bltBoot noLim noGens script room F binds none' (fun _ => none) o1 (fun _ _ z => nomatch z) (fun _ z => absurd rfl z) (wish _ o1 (.inr ⟨_, items.toArray, _, kn, rfl, rfl, rfl, ?_, by simpa using vals⟩))
    rw [List.size_toArray, areInts.length]
    exact short
  | none =>
    let H : Hp := fun b => if b = a then some (.frz { cls := .type "list", data := .seq items.toArray } (.lst (ns.map V.int))) else none
    have here : H a = some (.frz { cls := .type "list", data := .seq items.toArray } (.lst (ns.map V.int))) := if_pos rfl
    have there : ∀ b, b ≠ a → H b = none := fun b hb => if_neg hb
    have o1 : Only H := fun b => if hb : b = a then .inr ⟨_, _, hb ▸ here⟩ else .inl (there b hb)
    refine call_from inK glob blt bltBoot noLim noGens script room F binds none' H o1 (fun b u z => ?_) (fun b z => ?_) (wish _ o1 (.inl (.inr ⟨_, here⟩)))
    · by_cases hb : b = a
      · subst hb
        rw [here] at z
        cases z
        exact ⟨script, by rw [List.length_map]; exact short, items, _, vals, script⟩
      · rw [there b hb] at z
        cases z
    · by_cases hb : b = a
      · exact ⟨hb, kn⟩
      · exact absurd (there b hb) z
end
theorem walk_ofG {l : PySem.W.OpenLaw} {k : Nat} {q : Program} {loose : List Str} {XP : (Str → Option Value) → Heap → Prop} {YP : World → Heap → Prop} {d : DefRec} {K : Params → PySem.W.Frag} {sp : PySem.W.Frag → Sp} {x : Str}
    (most : l.most = some 63) (plain : d.params.defaults = []) (room : Room k callerA) (hY : ∀ (w : World) (h : Heap), YP w h → (K w.params).In h)
    (F : ∀ (w : World) (mg : Str → Option Value) (fa : Addr) (h : Heap), (K w.params).In h → h.Ns mainGlobals mg → mg d.name = some (.ref fa) →
      ∃ fd : FuncData, (∀ (s : Shared) (u : Value), BindsTo s fd ⟨[u], []⟩ [(x, u)]) ∧ ∀ base : Heap, (K w.params).In base → base.Ns mainGlobals mg → FnOkG l.prog w (K w.params) mg base CX0 k fa fd [x] (sp (K w.params)))
    (wish : ∀ (K : PySem.W.Frag) (H : Hp) (a : Addr) (ns : List Int), ns.length ≤ 63 → SqL K H a (ns.map V.int) → sp K [.ref a] H (fun v _ => v = .bl true) fun _ _ _ => False) :
    PySem.W.WalkO q loose XP YP l.row.toRowW d [] (fun f vs => PySem.call f vs) := by
  refine Att.attach_call most plain ?_
  intro w s₀ s₁ mg mb fa o pm cd doc a vs ns G Y _ _ _ named script areInts len gens
  have inK := hY w _ Y
  obtain ⟨fd, binds, ok⟩ := F w mg fa _ inK G.T.g named
  exact law_callG inK G.T.g G.T.b G.T.builtins G.T.nolimit gens script areInts (Nat.le_trans len (by decide)) room ok binds (fun _ _ _ z => z) fun H _ hS => wish _ H a ns len hS
/-! ### repr of data -/
section
variable {X : Cx}
theorem call_repr_data (hG : X.A.guards = some []) (hu : X.A.units + 64 < cLine) : CallR X (.builtin "repr") (fun xs H Q => ∃ (p : Addr) (d : PyData), xs = [.ref p] ∧ Dp X.K H (.ref p) d ∧ d.showable = true ∧ d.hasDict = false ∧ d.depth ≤ 20 ∧ d.shown.length ≤ sizeLine ∧ Q (.str d.shown) H) := by
  intro pins s σ H xs us Q I r h
  obtain ⟨p, d, rfl, hd, h1, h2, h3, h4, q⟩ := h
  obtain ⟨u, rfl, r1⟩ := vals1 r
  cases r1
  obtain ⟨as, rd⟩ := Dp.reads I d (.ref p) (.ref p) hd rfl
  exact repr_of_reads' (h₀ := s.heap) rd h1 (fun z => by rw [h2] at z; cases z) hG (by omega) (fun _ _ e => e) (fun h' u tk k => ⟨.str d.shown, H, I.kept k, ⟨u, rfl⟩, q⟩) h4
end
/-! ### cuts: what is known behind a statement -/
theorem cut_set {te : TE} {i : Nat} {u : TS} {D : Ends} {σ : L2.St} {H : Hp} (PV : V → Hp → Prop) (h : ∀ Q : VK, (∀ v H', PV v H' → Q v H') → te σ H Q) (k : ∀ v H', PV v H' → u D (σ.set i (some v)) H') : tSeq (tAsg te (gName i)) u D σ H := h _ k
theorem cut_for {wi : TI} {g : TG} {tb u : TS} {D : Ends} {σ : L2.St} {H : Hp} (PS' : L2.St → Hp → Prop) (h : ∀ N : L2.St → Hp → Prop, (∀ σ' H', PS' σ' H' → N σ' H') → tFor wi g tb { D with nx := N } σ H) (k : ∀ σ' H', PS' σ' H' → u D σ' H') : tSeq (tFor wi g tb) u D σ H := h _ k
theorem cut_it {K : PySem.W.Frag} {te : TE} {g : TG} {tb : TS} {D : Ends} {σ : L2.St} {H : Hp} (PV : V → Hp → Prop) (h : ∀ Q : VK, (∀ v H', PV v H' → Q v H') → te σ H Q) (k : ∀ v H', PV v H' → tFor (iList K (fun _ H1 Q => Q v H1)) g tb D σ H') : tFor (iList K te) g tb D σ H := h _ k
section
variable {X : Cx}
theorem pe_lc2D {elt tg iter tg1 iter1 : Expr} {ifs ifs1 : List Expr} {scope : Scope} {own : List (Str × Nat)} {vs1 : List Nat} {pos : Pos} {wi : TI} {wi1 : Dep TI} {g g1 : Dep TG} {tt tt1 : Dep TT} {te : Dep TE} (hc : X.calm = true) (hN : X.N.Nodup) (hi : PI X tg iter wi) (ok : BlkOk X.N X.env.scope scope own) (hv : ∀ i ∈ vs1, i ∈ own.map (·.2))
    (hg : ∀ (s : Shared) (H : Hp) (C : Addr) (cl : List (Str × Addr)) (fp : List Addr), PG (X.blk s H scope (compEnvC scope cl C X.env) fp) tg (g s H C cl fp)) (ht : ∀ (s : Shared) (H : Hp) (C : Addr) (cl : List (Str × Addr)) (fp : List Addr), PTs (X.blk s H scope (compEnvC scope cl C X.env) fp) ifs (tt s H C cl fp))
    (hi1 : ∀ (s : Shared) (H : Hp) (C : Addr) (cl : List (Str × Addr)) (fp : List Addr), PI (X.blk s H scope (compEnvC scope cl C X.env) fp) tg1 iter1 (wi1 s H C cl fp))
    (hg1 : ∀ (s : Shared) (H : Hp) (C : Addr) (cl : List (Str × Addr)) (fp : List Addr), PG (X.blk s H scope (compEnvC scope cl C X.env) fp) tg1 (g1 s H C cl fp)) (ht1 : ∀ (s : Shared) (H : Hp) (C : Addr) (cl : List (Str × Addr)) (fp : List Addr), PTs (X.blk s H scope (compEnvC scope cl C X.env) fp) ifs1 (tt1 s H C cl fp))
    (he : ∀ (s : Shared) (H : Hp) (C : Addr) (cl : List (Str × Addr)) (fp : List Addr), PE (X.blk s H scope (compEnvC scope cl C X.env) fp) elt (te s H C cl fp)) (hs : ∀ x, foldedSetIterable iter X.env x = pure x := by intro _; rfl) (hs1 : ∀ env x, foldedSetIterable iter1 env x = pure x := by intro _ _; rfl)
    (eg : ∀ s H C cl fp, g s H C cl fp = g.at X := by intros; rfl) (et : ∀ s H C cl fp, tt s H C cl fp = tt.at X := by intros; rfl) (ei : ∀ s H C cl fp, wi1 s H C cl fp = wi1.at X := by intros; rfl) (eg1 : ∀ s H C cl fp, g1 s H C cl fp = g1.at X := by intros; rfl) (et1 : ∀ s H C cl fp, tt1 s H C cl fp = tt1.at X := by intros; rfl)
    (ee : ∀ s H C cl fp, te s H C cl fp = te.at X := by intros; rfl) :
    PE X (.ListComp elt [⟨tg, iter, ifs, 0⟩, ⟨tg1, iter1, ifs1, 0⟩] scope pos) (tLc2 wi (g.at X) (tt.at X) (wi1.at X) (g1.at X) (tt1.at X) (te.at X) (own.map (·.2)) vs1) :=
  pe_lc2 hc hN hi ok hv (fun s H C cl fp => eg s H C cl fp ▸ hg s H C cl fp) (fun s H C cl fp => et s H C cl fp ▸ ht s H C cl fp) (fun s H C cl fp => ei s H C cl fp ▸ hi1 s H C cl fp) (fun s H C cl fp => eg1 s H C cl fp ▸ hg1 s H C cl fp) (fun s H C cl fp => et1 s H C cl fp ▸ ht1 s H C cl fp)
    (fun s H C cl fp => ee s H C cl fp ▸ he s H C cl fp) hs hs1
end
/-! ### a walk over a tuple, a list, whatever is done in a turn -/
theorem walk_tup {K : PySem.W.Frag} {a : Addr} {xs : List V} {B : V → Hp → (Hp → Prop) → Prop} {H1 : Hp} {Qd : Hp → Prop} (Pv : Nat → Hp → Prop) (h0 : Pv 0 H1) (hl : ∀ i H, i ≤ xs.length → Pv i H → SqT K H a xs)
    (hs : ∀ i x H, xs[i]? = some x → Pv i H → B x H (Pv (i + 1))) (hd : ∀ H, Pv xs.length H → Qd H) :
    ∃ W : Nat → Nat → Hp → Prop, (∃ m, W 0 m H1) ∧ ∀ i m H, W i m H →
      ((Itt K a).stop i H ∧ Qd H) ∨ ((Itt K a).go i H ∧ ∃ Nx : Hp → Prop, (∀ H', Nx H' → ∃ m', m' < m ∧ W (i + 1) m' H') ∧ ∀ x H', (Itt K a).yld i H x H' → B x H' Nx) := by
  refine ⟨fun i m H => (m = xs.length - i ∧ i ≤ xs.length) ∧ Pv i H, ⟨xs.length, ⟨by omega, Nat.zero_le _⟩, h0⟩, ?_⟩
  rintro i m H ⟨⟨rfl, le⟩, p⟩
  have there := hl i H le p
  rcases Nat.lt_or_ge i xs.length with lt | ge
  · have item : xs[i]? = some xs[i] := List.getElem?_eq_getElem lt
    refine .inr ⟨⟨xs, xs[i], there, item⟩, Pv (i + 1), ?_, ?_⟩
    · exact fun H' p' => ⟨xs.length - (i + 1), by omega, ⟨rfl, lt⟩, p'⟩
    · rintro x H' ⟨rfl, y⟩
      exact hs i x _ (y xs there) p
  · have e : i = xs.length := by omega
    subst e
    refine .inl ⟨?_, hd H p⟩
    exact ⟨xs, there, Nat.le_refl _⟩


end My
namespace My
open PySem PySem.Spec PyProof.Rows L2 TL
/-! ### a range held by a name, walked -/
def iRngV (tl : TE) : TI := fun σ H R => tl σ H fun x H1 => ∃ a lo hi, x = .ref a ∧ H1 a = some (.rng lo hi) ∧ (-(2 ^ 62) ≤ lo ∧ lo < 2 ^ 62 ∧ -(2 ^ 62) ≤ hi ∧ hi < 2 ^ 62) ∧ R (Itr lo (hi - lo).toNat) H1
theorem pi_rng {X : Cx} {tg l : Expr} {tl : TE} (hl : PE X l tl) : PI X tg l (iRngV tl) := by
  refine ⟨fun pins s σ H R I h => ?_⟩
  refine thn (hl.run pins s σ H _ I h) fun v s1 ⟨x, H1, I1, r1, q1⟩ => ?_
  obtain ⟨a, lo, hi, e, ha, ⟨h1, h2, h3, h4⟩, q⟩ := q1
  subst e
  cases r1
  obtain ⟨t, u, v, e⟩ := I1.hok a _ ha
  refine wpAny_pyIter_range (show IsRange s1.heap a lo hi 1 t u v from e) (small_one h1 h2 h3 h4) ?_
  refine ⟨s1.heap.objs.size, [s1.heap.objs.size], _, _, H1, rfl, I1.kept (t' := s1.toks) fun b o e => Heap.get?_push_of_some _ e, turn_range _ lo (hi - lo).toNat, ?_, fun b hb => ?_, q⟩
  · have e1 : lo + ((0 : Nat) : Int) * 1 = lo := by simp
    have e2 : (((hi - lo).toNat : Nat) : Int) - ((0 : Nat) : Int) = Builtin.Range.rangeSize lo hi 1 := by rw [rangeSize_one]; split <;> omega
    show IsRangeIter _ _ (lo + ((0 : Nat) : Int) * 1) ((((hi - lo).toNat : Nat) : Int) - ((0 : Nat) : Int)) 1
    rw [e1, e2]
    exact Heap.get?_push_size _ rfl
  · have e : b = s1.heap.objs.size := by simpa using hb
    subst e
    exact I1.fpOk (Nat.le_refl _) (I1.hok.fresh (Nat.le_refl _))


end My
namespace My
open PySem PySem.Spec PyProof.Rows L2 TL
/-! ### for i, x in enumerate(t), t a tuple -/
section
open PySem
set_option maxHeartbeats 1000000 in
theorem meets_enumerate_new1 {v : Value} {o : Obj} {H : Heap → Prop} (B : PySem.Begins v o H) :
    Meets (Builtin.«enumerate.__new__» ⟨[.type "enumerate", v], []⟩) (fun _ R s => H s.heap ∧
      R (.ok (.ret (.ref (s.heap.push o).objs.size))) { s with heap := (s.heap.push o).push { cls := .type "enumerate", data := .fields #[.none, .bool false, .ref s.heap.objs.size, rawInt 0, .none, .none] } }) :=
  .of_wp fun prog w A R s h => by
    obtain ⟨hp, g, d, tk, os⟩ := s; obtain ⟨h1, h⟩ := h
    have hsub := sub_enumerate
    have q1 : ∀ {A' : Around} {E : Value → Shared → Prop} {Q : Value → Shared → Prop}, Q (.ref hp.objs.size) ⟨hp.push o, g, d, tk, os⟩ → wpAny (model prog w) A' (pyIter v) Q E ⟨hp, g, d, tk, os⟩ :=
      fun q => B.iter prog w _ _ ⟨hp, g, d, tk, os⟩ _ h1 q
    wp_walk using q1
    refine wpAny_stack_any fun st => wpAny_pure ?_
    split
    · rename_i c _ _ _ _ _
      cases (c == Value.type "enumerate")
      · wp_walk using q1
        exact ⟨_, rfl, h⟩
      · wp_walk using q1
        exact ⟨_, rfl, h⟩
    · wp_walk using q1
      exact ⟨_, rfl, h⟩
theorem enum_begins1 {prog : Program} {w : World} {A : Around} {E : Value → Shared → Prop} {s : Shared} {v : Value} {o : Obj} {H : Heap → Prop} {Q : Value → Shared → Prop} (B : PySem.Begins v o H) (h1 : H s.heap)
    (h : ∀ h', IsEnum h' (s.heap.objs.size + 1) s.heap.objs.size 0 .none → h'.get? s.heap.objs.size = some o → h'.objs.size = s.heap.objs.size + 2 →
      (∀ b o, s.heap.get? b = some o → h'.get? b = some o) → Q (.ref (s.heap.objs.size + 1)) { s with heap := h' }) :
    wpAny (model prog w) A (call (.type "enumerate") [v]) Q E s := by
  refine callType_new F.called_enumerate (by decide) (F.typeCall_enumerate_1 _) (F.newCall_enumerate_1 _) (fun obj => F.args_object_init_2 obj _) F.entry_enumerate_new
    (meets_enumerate_new1 B) ⟨h1, ?_⟩
  have hz : (s.heap.push o).objs.size = s.heap.objs.size + 1 := Heap.size_push ..
  show _ ∧ _
  rw [hz]
  have he : IsEnum ((s.heap.push o).push { cls := .type "enumerate", data := .fields #[.none, .bool false, .ref s.heap.objs.size, rawInt 0, .none, .none] }) (s.heap.objs.size + 1) s.heap.objs.size 0 .none := by
    have := Heap.get?_push_size (s.heap.push o) (o := { cls := .type "enumerate", data := .fields #[.none, .bool false, .ref s.heap.objs.size, rawInt 0, .none, .none] }) rfl
    rw [hz] at this; exact this
  refine ⟨⟨_, he, rfl⟩, h _ he (Heap.get?_push_of_some _ (Heap.get?_push_size _ B.free)) (by rw [Heap.size_push, hz]) fun b o x => Heap.get?_push_of_some _ (Heap.get?_push_of_some _ x)⟩
end
/-- the tuple at a, each item in a new pair -/
def Itet (K : PySem.W.Frag) (a : Addr) : It :=
  ⟨fun i H => ∃ (xs : List V) (x : V), SqT K H a xs ∧ xs[i]? = some x, fun i H v H' => ∃ T x, v = .ref T ∧ H T = none ∧ H' = upd H T (.tup [.int (i : Nat), x]) ∧ ∀ xs, SqT K H a xs → xs[i]? = some x, fun i H => ∃ xs : List V, SqT K H a xs ∧ xs.length = i⟩
theorem turn_enumT {P : Program} {w : World} {K : PySem.W.Frag} {elts : List Expr} {kk : Nat} {tpos : PySem.Pos} (a e it : Addr) :
    Turn P w K (.Tuple elts kk tpos) (Itet K a) [e, it] e (fun i h => (∃ old, IsEnum h e it ((i : Nat) : Int) old) ∧ h.IsTupleIter it a i ∧ e ≠ it) where
  mem := by simp
  obj := fun i h st b hb => by
    obtain ⟨⟨old, he⟩, ⟨o, ho, hc, hd⟩, _⟩ := st
    have e' : b = e ∨ b = it := by simpa using hb
    rcases e' with z | z
    · rw [z]; exact ⟨_, he, fun v q => nomatch q⟩
    · rw [z]; exact ⟨o, ho, fun v q => by rw [hd] at q; cases q⟩
  keep := fun i h h' st k => let ⟨⟨old, he⟩, hi, hne⟩ := st; ⟨⟨old, k e (by simp) _ he⟩, hi.at fun o q => k it (by simp) o q, hne⟩
  item := by
    intro X hP hw hK hc i pins s σ H E I hf st hg
    subst hP hw hK
    obtain ⟨⟨old, he⟩, hit, hne⟩ := st
    obtain ⟨xs, x, hq, hx⟩ := hg
    obtain ⟨its, rv, p, hz⟩ := I.tuple hq
    obtain ⟨u, hu, ru⟩ := rv.get hx
    have hel : e < s.heap.objs.size := Heap.lt_size he
    have hil : it < s.heap.objs.size := by obtain ⟨_, q, _⟩ := hit; exact Heap.lt_size q
    have hae : a ≠ e := fun z => by
      obtain ⟨o, ho, hc1, _⟩ := id p
      rw [z] at ho
      have e1 := Option.some.inj (ho.symm.trans he)
      rw [e1] at hc1
      exact absurd (Value.type.inj hc1) (by decide)
    have hai : a ≠ it := fun z => by
      obtain ⟨o, ho, hc1, _⟩ := id p
      obtain ⟨o2, ho2, hc2, _⟩ := id hit
      rw [z] at ho
      have e1 := Option.some.inj (ho.symm.trans ho2)
      rw [← e1, hc1] at hc2
      exact absurd (Value.type.inj hc2) (by decide)
    have D := Draws.tuple (prog := X.prog) (w := X.w) (A := X.A.in1) (show X.A.in1.handled = none from I.ok.hd hc) it a hai its.toArray
    have li : i < its.toArray.size := by
      have := (List.getElem?_eq_some_iff.mp hu).1
      simpa using this
    refine wpAny_pyNext_enum_itemD D he ⟨hit, p⟩ li hne (by simp only [List.mem_cons, List.not_mem_nil, or_false, not_or]; exact ⟨hne, hae.symm⟩) fun y h' tk hy ho hit' hT hsz hk => ?_
    have eu : y = u := by
      have : its[i]? = some y := by simpa using hy
      rw [hu] at this
      exact (Option.some.inj this).symm
    subst eu
    refine ⟨_, rfl, wpAny_letOwnedTupleGo_enum (s := { s with heap := h', toks := tk + 1 }) ho fun h'' he' sb => ?_⟩
    have hT2 : h''.get? s.heap.objs.size = some { cls := .type "tuple", data := .seq #[.int i tk, y] } := (sb.2 _ (Nat.ne_of_gt hel)).trans hT
    have new : ObjOk X.prog X.w (upd H s.heap.objs.size (.tup [.int (i : Nat), x])) h'' s.heap.objs.size (.tup [.int (i : Nat), x]) :=
      ⟨by show 2 ≤ sizeLine; decide, [.int i tk, y], .cons ⟨_, rfl⟩ (.cons ru .nil), ⟨_, hT2, rfl, _, rfl⟩⟩
    have I1 : Inv X pins σ (upd H s.heap.objs.size (.tup [.int (i : Nat), x])) { s with heap := h'', toks := tk + 1 } :=
      I.turnedNew (ch := [e, it]) (fun b ob hb q => (sb.2 b (fun z => hb (by simp [z]))).trans (hk b ob (fun z => hb (by simp [z])) (fun z => hb (by simp [z])) q)) hf (Nat.le_refl _) new
    refine ⟨.ref s.heap.objs.size, _, I1, rfl, ⟨_, x, rfl, I.hok.fresh (Nat.le_refl _), rfl, fun ys hy => by rw [I.tuple_inj hy hq]; exact hx⟩, ⟨⟨y, ?_⟩, hit'.1.at fun o q => (sb.2 it (Ne.symm hne)).trans q, hne⟩, fun b hb => ?_⟩
    · have e1 : ((i + 1 : Nat) : Int) = (i : Int) + 1 := by omega
      rw [e1]; exact he'
    · have hb' : b < s.heap.objs.size := by
        have e' : b = e ∨ b = it := by simpa using hb
        rcases e' with z | z
        · rw [z]; exact hel
        · rw [z]; exact hil
      rw [upd_ne (Nat.ne_of_lt hb')]
      exact (hf b hb).1
  done := by
    intro X hP hw hK hc i pins s σ H E I hf st hg
    subst hP hw hK
    obtain ⟨⟨old, he⟩, hit, hne⟩ := st
    obtain ⟨xs, hq, hx⟩ := hg
    obtain ⟨its, rv, p, hz⟩ := I.tuple hq
    obtain ⟨f0, f1, f2, f3, f4, f5⟩ := hf it (by simp)
    have hl := rv.length
    have hae : a ≠ e := fun z => by
      obtain ⟨o, ho, hc1, _⟩ := id p
      rw [z] at ho
      have e1 := Option.some.inj (ho.symm.trans he)
      rw [e1] at hc1
      exact absurd (Value.type.inj hc1) (by decide)
    have hai : a ≠ it := fun z => by
      obtain ⟨o, ho, hc1, _⟩ := id p
      obtain ⟨o2, ho2, hc2, _⟩ := id hit
      rw [z] at ho
      have e1 := Option.some.inj (ho.symm.trans ho2)
      rw [← e1, hc1] at hc2
      exact absurd (Value.type.inj hc2) (by decide)
    have D := Draws.tuple (prog := X.prog) (w := X.w) (A := X.A.in1) (show X.A.in1.handled = none from I.ok.hd hc) it a hai its.toArray
    have hit2 : s.heap.IsTupleIter it a its.toArray.size := by
      rw [show its.toArray.size = i by simp; omega]
      exact hit
    exact wpAny_pyNext_enum_endD D he ⟨hit2, p⟩ fun h' eb => ⟨rfl, I.turned (t' := s.toks) (fun b o hb q => eb b o hb q) f0 f1 f3 f4 f5⟩
  self := fun A i s Q E st h => let ⟨⟨_, he⟩, _⟩ := st; wpAny_pyIter_enum he h
def iEnumT (K : PySem.W.Frag) (ta : TA) : TI := fun σ H R => ta σ H fun vs H1 => ∃ a xs, vs = [.ref a] ∧ SqT K H1 a xs ∧ R (Itet K a) H1
theorem pi_enumT {X : Cx} {e : Expr} {ta : TA} {p pos tpos : PySem.Pos} {elts : List Expr} {kk : Nat} (hg : Gl X "enumerate") (hm : X.mg "enumerate" = none) (ha : PA X [e] ta) (hs : starEach [e] X.env = [(false, eval e X.env)] := by rfl) :
    PI X (.Tuple elts kk tpos) (.Call (.Name "enumerate" p) [e] [] pos) (iEnumT X.K ta) := by
  refine ⟨fun pins s σ H R I h => ?_⟩
  refine Call_ (ld_blt I hg hm boot_enumerate (PyProof.Rows.callWith_type1 (thn (ha.run pos pins s σ H _ I h) fun us s1 ⟨vs, H1, I1, r1, q1⟩ => ?_) hs rfl))
  obtain ⟨a, xs, ex, hq, q⟩ := q1
  subst ex
  cases r1 with
  | cons r rr =>
    cases rr
    cases r
    obtain ⟨its, rv, p', hz⟩ := I1.tuple hq
    refine enum_begins1 (begins_tuple a its.toArray) p' fun h' he hit hsz hk => wpAny_pyIter_enum he ?_
    have I2 : Inv X pins σ H1 { s1 with heap := h' } := I1.kept (t' := s1.toks) hk
    refine ⟨s1.heap.objs.size + 1, [s1.heap.objs.size + 1, s1.heap.objs.size], _, _, H1, rfl, I2, turn_enumT a (s1.heap.objs.size + 1) s1.heap.objs.size, ⟨⟨.none, he⟩, ⟨_, hit, rfl, rfl⟩, Nat.succ_ne_self _⟩, fun b hb => ?_, q⟩
    have e' : b = s1.heap.objs.size + 1 ∨ b = s1.heap.objs.size := by simpa using hb
    have hle : s1.heap.objs.size ≤ b := by
      rcases e' with z | z
      · rw [z]; exact Nat.le_add_right _ _
      · rw [z]; exact Nat.le_refl _
    exact I1.fpOk hle (I1.hok.fresh hle)
theorem for_enumT {K : PySem.W.Frag} {a : Addr} {xs : List V} {g : TG} {tb : TS} {D : Ends} {σ : L2.St} {H : Hp} (Pv : Nat → L2.St → Hp → Prop) (h0 : Pv 0 σ H) (hl : ∀ i σ H, i ≤ xs.length → Pv i σ H → SqT K H a xs)
    (hs : ∀ i x σ H T, xs[i]? = some x → Pv i σ H → H T = none → g (.ref T) σ (upd H T (.tup [.int (i : Nat), x])) fun σ2 H2 => tb { D with nx := Pv (i + 1), ct := Pv (i + 1), bk := D.nx } σ2 H2) (hd : ∀ σ H, Pv xs.length σ H → D.nx σ H) :
    ∃ W : Nat → Nat → L2.St → Hp → Prop, (∃ m, W 0 m σ H) ∧ ∀ i m σ H, W i m σ H →
      ((Itet K a).stop i H ∧ D.nx σ H) ∨ ((Itet K a).go i H ∧ ∃ N : L2.St → Hp → Prop, (∀ σ' H', N σ' H' → ∃ m', m' < m ∧ W (i + 1) m' σ' H') ∧ ∀ x H', (Itet K a).yld i H x H' → g x σ H' fun σ2 H2 => tb { D with nx := N, ct := N, bk := D.nx } σ2 H2) := by
  refine ⟨fun i m σ H => m = xs.length - i ∧ i ≤ xs.length ∧ Pv i σ H, ⟨xs.length, by simp, Nat.zero_le _, h0⟩, ?_⟩
  rintro i m σ H ⟨rfl, hi, p⟩
  have q := hl i σ H hi p
  by_cases hlt : i < xs.length
  · refine .inr ⟨⟨xs, xs[i], q, by simp [hlt]⟩, Pv (i + 1), fun σ' H' p' => ⟨xs.length - (i + 1), by omega, rfl, hlt, p'⟩, fun x H' y => ?_⟩
    obtain ⟨T, z, rfl, hT, rfl, y⟩ := y
    exact hs i z σ H T (y xs q) p hT
  · have e : i = xs.length := by omega
    subst e
    exact .inl ⟨⟨xs, q, rfl⟩, hd σ H p⟩

/-- a comprehension over enumerate of a tuple -/
theorem lc_enumT {K : PySem.W.Frag} {a : Addr} {xs : List V} {g : TG} {tt : TT} {te : TE} {vs : List Nat} {σ : L2.St} {H1 : Hp} {D : Addr} {Qd : Hp → Prop} (Pv : Nat → Hp → Prop) (h0 : Pv 0 (upd H1 D (.lst []))) (hl : ∀ i H, i ≤ xs.length → Pv i H → SqT K H a xs)
    (hs : ∀ i x H T, xs[i]? = some x → Pv i H → H T = none → g (.ref T) (wipe σ vs) (upd H T (.tup [.int (i : Nat), x])) fun σ2 H2 => wipe σ2 vs = wipe σ vs ∧ tt σ2 H2 fun b H3 =>
      if b = true then te σ2 H3 fun y H4 => ∃ acc, H4 D = some (.lst acc) ∧ acc.length < sizeLine ∧ Pv (i + 1) (upd H4 D (.lst (acc ++ [y]))) else Pv (i + 1) H3) (hd : ∀ H, Pv xs.length H → Qd H) :
    ∃ W : Nat → Nat → Hp → Prop, (∃ m, W 0 m (upd H1 D (.lst []))) ∧ ∀ i m H, W i m H →
      ((Itet K a).stop i H ∧ Qd H) ∨ ((Itet K a).go i H ∧ ∃ Nx : Hp → Prop, (∀ H', Nx H' → ∃ m', m' < m ∧ W (i + 1) m' H') ∧ ∀ x H', (Itet K a).yld i H x H' → g x (wipe σ vs) H' fun σ2 H2 => wipe σ2 vs = wipe σ vs ∧ tt σ2 H2 fun b H3 =>
        if b = true then te σ2 H3 fun y H4 => ∃ acc, H4 D = some (.lst acc) ∧ acc.length < sizeLine ∧ Nx (upd H4 D (.lst (acc ++ [y]))) else Nx H3) := by
  refine ⟨fun i m H => m = xs.length - i ∧ i ≤ xs.length ∧ Pv i H, ⟨xs.length, by simp, Nat.zero_le _, h0⟩, ?_⟩
  rintro i m H ⟨rfl, hi, p⟩
  have q := hl i H hi p
  by_cases hlt : i < xs.length
  · refine .inr ⟨⟨xs, xs[i], q, by simp [hlt]⟩, Pv (i + 1), fun H' p' => ⟨xs.length - (i + 1), by omega, rfl, hlt, p'⟩, fun x H' y => ?_⟩
    obtain ⟨T, z, rfl, hT, rfl, y⟩ := y
    exact hs i z H T (y xs q) p hT
  · have e : i = xs.length := by omega
    subst e
    exact .inl ⟨⟨xs, q, rfl⟩, hd H p⟩


end My
namespace My
open PySem PySem.Spec PyProof.Rows L2 TL
/-! ### sets of texts: made of a tuple or a list of texts, sorted -/
section
open PySem.Froz
/-- what a set of texts keeps: its payload holds the texts L, each once; its table rises and can be walked -/
structure TxR (P : Program) (w : World) (D : SD) (L : List Str) : Prop where
  ok : TxOk P w D L
  nd : L.Nodup
  rows : ((D.1.toList.map (·.2)).map strOf).Perm L
  str : ∀ v ∈ D.1.toList.map (·.2), ∃ k u, v = Value.str k u
  ris : Ris D.2.2.place.toList
  led : w.params.followText "set-order" = true ∨ D.2.2.led = true
theorem tailTx_eq (ep : Nat) (es : Array (Int × Value)) (t : SetTable) (b : Bool) : ∃ es' ep' t', tailTx ep es t b = (es', ep', t') ∧ es'.toList.Perm es.toList ∧ (Ris t.place.toList → Ris t'.place.toList) ∧ t'.led = t.led := by
  unfold tailTx
  by_cases c : (!b && t.tooFull) = true
  · rw [if_pos c]
    exact ⟨_, _, _, rfl, relayAll_perm _ _ _, fun _ => relayAll_ris _ _ _, relayAll_led _ _ _⟩
  · rw [if_neg c]
    exact ⟨_, _, _, rfl, List.Perm.refl _, id, rfl⟩
theorem TxR.add {P : Program} {w : World} {D : SD} {L : List Str} {k : Str} (u : Tok) (F : TxR P w D L) (hk : k ∉ L) : TxR P w (addTx (hashStr w k) (.str k u) D) (k :: L) := by
  have ok := add_ok u F.ok (k := k)
  obtain ⟨es, ep, t⟩ := D
  obtain ⟨_, nd, rows, str, ris, led⟩ := F
  have p0 := layNew_perm t es (hashStr w k) (.str k u)
  have r0 := layNew_ris t es (hashStr w k) (.str k u) ris
  have l0 := layNew_led t es (hashStr w k) (.str k u)
  rw [Array.toList_push] at p0
  unfold addTx at ok ⊢
  dsimp only at ok ⊢
  generalize hZ : layNew t es (hashStr w k) (.str k u) = Z at p0 r0 l0 ok ⊢
  obtain ⟨es1, t1, wd, gave⟩ := Z
  dsimp only at p0 r0 l0 ok ⊢
  have off : ∀ (c : Bool), ((if c = true then { t1 with plain := false } else t1 : SetTable)).place = t1.place ∧ (if c = true then { t1 with plain := false } else t1 : SetTable).led = t1.led := fun c => by cases c <;> exact ⟨rfl, rfl⟩
  obtain ⟨o1, o2⟩ := off t1.plain
  obtain ⟨es', ep', t', e, pe, re, le⟩ := tailTx_eq ep es1 (if t1.plain = true then { t1 with plain := false } else t1) wd
  rw [e] at ok ⊢
  have pp : (es'.toList.map (·.2)).Perm (es.toList.map (·.2) ++ [Value.str k u]) := by
    have q := (pe.trans p0).map (·.2)
    rw [List.map_append] at q
    exact q
  refine ⟨ok, List.nodup_cons.mpr ⟨hk, nd⟩, ?_, fun v hv => ?_, re (by rw [o1]; exact r0), led.imp id fun z => by rw [le, o2, l0]; exact z⟩
  · have q := pp.map strOf
    rw [List.map_append] at q
    exact q.trans ((List.perm_append_singleton _ _).trans (rows.cons k))
  · rcases List.mem_append.mp (pp.mem_iff.mp hv) with z | z
    · exact str v z
    · exact ⟨k, u, List.mem_singleton.mp z⟩
section
variable {P : Program} {w : World} {A : Around} {E : Value → Shared → Prop} {s : Shared}
theorem add_old {a : Addr} {T : String} {D : SD} {L : List Str} {k : Str} {u : Tok} {Q : Bool → Shared → Prop} (ho : s.heap.get? a = some (sObj T D)) (F : TxOk P w D L) (hk : k ∈ L) (hb : L.length < scanBound) (h : Q false s) :
    wpAny (model P w) A (setAddHashed a (.str k u) (hashStr w k)) Q E s := by
  obtain ⟨es, ep, t⟩ := D
  have hd : (sObj T (es, ep, t)).data = .set es ep t := rfl
  have hf : t.fits es.size = true := F.fit
  have hel : ElemsOf (PySem.strKind P w) es.toList := F.el
  have hsz : es.size = L.length := F.sz
  cases hfi : List.findIdx? (fun e => (PySem.strKind P w).is k e.2) es.toList with
  | none =>
    obtain ⟨e, he, z⟩ := (F.mem k).mp hk
    have c := List.findIdx?_eq_none_iff.mp hfi e he
    rw [z] at c
    cases c
  | some j =>
    unfold setAddHashed setAddHashedIn
    refine wpAny_holding (wpAny_bind (wpAny_setState_of ho hd hf ?_))
    dsimp only
    rw [byScan_of rfl (by omega) hel]
    simp only [↓reduceIte]
    unfold setAddByScan
    refine wpAny_bind (wpAny_bind (wpAny_rule (wpAny_bind (wpAny_setScan_of (knd := PySem.strKind P w) (k := k) (is_str k u) ho hd hf hel ?_))))
    rw [hfi]
    dsimp only
    exact wpAny_pure (wpAny_pure h)
end
/-- the set of texts at a -/
def SetS (P : Program) (w : World) (h : Heap) (a : Addr) (L : List Str) : Prop := ∃ D, h.get? a = some (sObj "set" D) ∧ TxR P w D L
theorem SetS.at {P : Program} {w : World} {h h' : Heap} {a : Addr} {L : List Str} (R : SetS P w h a L) (k : ∀ o, h.get? a = some o → h'.get? a = some o) : SetS P w h' a L := by
  obtain ⟨D, ho, r⟩ := R
  exact ⟨D, k _ ho, r⟩
def freshSet (w : World) : Obj := { cls := .type "set", dict := none, data := .set #[] 0 (.fresh 0 0 (!w.params.followText "set-order")) }
theorem SetS.fresh {P : Program} {w : World} {h : Heap} {a : Addr} (ho : h.get? a = some (freshSet w)) : SetS P w h a [] :=
  ⟨(#[], 0, .fresh 0 0 (!w.params.followText "set-order")), ho, .nil rfl, List.nodup_nil, List.Perm.refl _, fun v hv => (by simp at hv), List.Pairwise.nil, by
    show _ ∨ (!w.params.followText "set-order") = true
    cases w.params.followText "set-order"
    · exact .inr rfl
    · exact .inl rfl⟩
section
variable {P : Program} {w : World} {A : Around} {E : Value → Shared → Prop} {s : Shared}
/-- one text more -/
theorem SetS.put {a : Addr} {L : List Str} {k : Str} {u : Tok} {Q : Bool → Shared → Prop} (R : SetS P w s.heap a L) (room : L.length + 1 < scanBound)
    (h : ∀ b h' L', Heap.SameBut a s.heap h' → SetS P w h' a L' → L'.length ≤ L.length + 1 → (∀ x, x ∈ L' ↔ x = k ∨ x ∈ L) → Q b { s with heap := h' }) :
    wpAny (model P w) A (setAddHashed a (.str k u) (hashStr w k)) Q E s := by
  obtain ⟨D, ho, r⟩ := R
  by_cases hk : k ∈ L
  · exact add_old ho r.ok hk (by omega) (h false s.heap L (Heap.SameBut.refl a s.heap) ⟨D, ho, r⟩ (Nat.le_succ _) fun x => ⟨.inr, fun z => z.elim (fun e => e ▸ hk) id⟩)
  · refine add_x ho r.ok hk room (h true _ (k :: L) (Heap.SameBut.update s.heap a _) ⟨_, get_upd _ ho rfl, r.add u hk⟩ (Nat.le_refl _) fun x => List.mem_cons)
/-- the loop that puts a walk's texts into the set -/
theorem put_texts {I : Addr} {fp wr : List Addr} {G : Array GenState → Array GenState → Prop} {n : Nat} {Pv : Nat → Value → Prop} {St : Nat → Shared → Prop} {R : Result → Shared → Prop}
    (W : WalksS P w A.in1 I fp wr G n Pv St) (S : Addr) (far : S ∉ fp) (ks : List Str) (hn : n = ks.length) (few : ks.length + 1 < scanBound) (txt : ∀ i v, Pv i v → ∃ k u, ks[i]? = some k ∧ v = .str k u) :
    ∀ (m i : Nat) (s : Shared), n - i = m → i ≤ n → St i s → (∃ L, L.length ≤ i ∧ (∀ x, x ∈ L ↔ x ∈ ks.take i) ∧ SetS P w s.heap S L) →
      (∀ s' L, Moved (S :: wr) G s s' → L.length ≤ n → (∀ x, x ∈ L ↔ x ∈ ks) → SetS P w s'.heap S L → R (.ok (.ret .none)) s') →
      codeAny (model P w) A (.builtin "set.update.loop" ⟨[.ref S, .ref I], []⟩) R s := by
  have notW : S ∉ wr := fun z => far (W.sub _ z)
  have wider : ∀ b ∈ wr, b ∈ S :: wr := fun b => List.mem_cons_of_mem _
  intro m
  induction m with
  | zero =>
    intro i s hm hi st ⟨L, hL, mem, hS⟩ fin
    obtain rfl : i = n := by omega
    refine codeAny_builtin F.entry_set_update_loop ?_
    rw [Around.under_plainId F.plain_set_update_loop _]
    refine wpAny_bind (W.done s _ _ st fun s' mv => ?_)
    rw [List.take_of_length_le (by omega)] at mem
    exact wpAny_pure (fin s' L (mv.mono wider) hL mem (hS.at fun o e => mv.heap S o notW e))
  | succ m ih =>
    intro i s hm hi st ⟨L, hL, mem, hS⟩ fin
    have lt : i < n := by omega
    refine codeAny_builtin F.entry_set_update_loop ?_
    rw [Around.under_plainId F.plain_set_update_loop _]
    refine wpAny_bind (W.item i s _ _ lt st fun v s1 hv st1 mv => ?_)
    obtain ⟨k, u, hk, rfl⟩ := txt i v hv
    have hS1 : SetS P w s1.heap S L := hS.at fun o e => mv.heap S o notW e
    show wpAny _ A.in1 (holding [Value.str k u] (setAdd S (.str k u)) >>= _) _ _ s1
    refine wpAny_bind (wpAny_holding ?_)
    unfold setAdd
    refine wpAny_holding (wpAny_bind ((PySem.strKind P w).pyHash (k := k) (is_str k u) ?_))
    refine SetS.put (s := { s1 with toks := s1.toks + 1 }) hS1 (by omega) fun b h' L' sb hS2 hL2 mem2 => ?_
    refine wpAny_pure ⟨plainId_quiet F.plain_set_update_loop _, ih (i + 1) _ (by omega) lt (W.frame _ s1 _ _ st1 (Nat.le_succ _) fun c hc o e => ?_) ⟨L', by omega, fun x => ?_, hS2⟩ fun s2 L2 mv2 hL3 mem3 hS3 => ?_⟩
    · rw [sb.2 c (fun z => far (z ▸ hc))]
      exact e
    · rw [mem2, mem, List.take_add_one, hk, List.mem_append]
      show _ ↔ _ ∨ x ∈ [k]
      rw [List.mem_singleton]
      exact Or.comm
    · refine fin s2 L2 (Moved.trans W.gtrans ((mv.mono wider).then_heap (Nat.le_succ _) fun c o hc e => ?_) mv2) hL3 mem3 hS3
      rw [sb.2 c (fun z => hc (z ▸ List.mem_cons_self))]
      exact e
end
end


end My
namespace My
open PySem PySem.Spec PyProof.Rows L2 TL
/-! ### set(x), x a tuple or a list of texts -/
section
variable {P : Program} {w : World} {A : Around} {E : Value → Shared → Prop} {s : Shared}
/-- set(x): what __init__ does with the new, empty set is left open -/
theorem set_call (a : Value) {Q : Value → Shared → Prop} {R : Shared → Prop} (init : codeAny (model P w) A.in1 (.call (.builtin "set.__init__") ⟨[.ref s.heap.objs.size, a], []⟩) (wants (fun r s2 => r = .none ∧ R s2) E) { s with heap := s.heap.push (freshSet w) }) (fin : ∀ s2, R s2 → Q (.ref s.heap.objs.size) s2) :
    wpAny (model P w) A (call (.type "set") [a]) Q E s := by
  obtain ⟨c, tl, hmro⟩ := F.called_set.mro
  have hmade := F.called_set.made
  have hsub := F.called_set.sub
  refine wpAny_call (codeAny_of_tree ?_)
  show wpAny _ _ (callAny (.type "set") _) _ _ _
  refine wpAny_pure ⟨Code.quiet_builtin _ (by decide +kernel), codeAny_builtin F.entry_type_call ?_⟩
  rw [Around.under_plain (weight_type_call_type "set" [a] []) rfl]
  have h1 := F.called_set.notType
  have h2 := F.called_set.canCreate
  have hct := F.typeCall_set_1 a
  repeat (any_goals (first | assumption | wp_step))
  refine codeAny_mono (code_set_led1 a (E := E) (Q₁ := fun obj s₁ => obj = .ref s.heap.objs.size ∧ s₁ = { s with heap := s.heap.push (freshSet w) }) ⟨rfl, rfl⟩) fun r s₁ hr => ?_
  match r, hr with
  | .error e, hr => exact hr
  | .ok .next, hr => exact hr.elim
  | .ok .brk, hr => exact hr.elim
  | .ok .cont, hr => exact hr.elim
  | .ok (.ret obj), hr =>
    obtain ⟨rfl, rfl⟩ := hr
    have hS : (s.heap.push (freshSet w)).get? s.heap.objs.size = some (freshSet w) := Heap.get?_push_size _ rfl
    have hT : Shared.TypeIs { s with heap := s.heap.push (freshSet w) } (.ref s.heap.objs.size) "set" := ⟨_, hS, rfl⟩
    have hli := F.called_set.init.lookup
    have hbi := F.called_set.init.bind (.ref s.heap.objs.size)
    repeat (any_goals (first | assumption | wp_step))
    refine codeAny_mono init fun r2 s2 hr2 => ?_
    match r2, hr2 with
    | .error e, hr2 => exact hr2
    | .ok .next, hr2 => exact hr2.elim
    | .ok .brk, hr2 => exact hr2.elim
    | .ok .cont, hr2 => exact hr2.elim
    | .ok (.ret v), hr2 =>
      obtain ⟨rfl, q⟩ := hr2
      repeat (any_goals (first | assumption | wp_step))
      exact fin _ q
theorem txt_at : ∀ {us : List Value} {ks : List Str}, StrsAre us ks → us.length = ks.length ∧ ∀ (i : Nat) (v : Value), us[i]? = some v → ∃ k u, ks[i]? = some k ∧ v = .str k u
  | _, _, .nil => ⟨rfl, fun i v h => (by simp at h)⟩
  | _, _, .cons n t r => by
    obtain ⟨l, g⟩ := txt_at r
    refine ⟨congrArg (· + 1) l, fun i v h => ?_⟩
    cases i with
    | zero => exact ⟨n, t, rfl, (Option.some.inj h).symm⟩
    | succ i => exact g i v h
/-- the walk over a tuple or a list puts its texts into the new set -/
theorem set_tup {l : Addr} {items : Array Value} {ks : List Str} {Q : Value → Shared → Prop} (hh : A.handled = none) (hl : s.heap.IsTuple l items) (hi : StrsAre items.toList ks) (few : ks.length + 1 < scanBound)
    (h : ∀ (h' : Heap) (tk : Nat) L, SetS P w h' s.heap.objs.size L → L.length ≤ ks.length → (∀ x, x ∈ L ↔ x ∈ ks) → (∀ b o, s.heap.get? b = some o → h'.get? b = some o) → Q (.ref s.heap.objs.size) { s with heap := h', toks := tk }) :
    wpAny (model P w) A (call (.type "set") [.ref l]) Q E s := by
  obtain ⟨⟨ocls, odict, odata, oslots⟩, hol, hcl, nl, hdl⟩ := hl
  simp only at hcl hdl
  subst hcl
  subst hdl
  have hS : (s.heap.push (freshSet w)).get? s.heap.objs.size = some (freshSet w) := Heap.get?_push_size _ rfl
  have hT : Shared.TypeIs { s with heap := s.heap.push (freshSet w) } (.ref s.heap.objs.size) "set" := ⟨_, hS, rfl⟩
  have hol' : (s.heap.push (freshSet w)).get? l = some { cls := .type "tuple", dict := odict, data := .seq items nl, slots := oslots } := Heap.get?_push_of_some _ hol
  have hl1 : (s.heap.push (freshSet w)).IsTuple l items := ⟨_, hol', rfl, nl, rfl⟩
  refine set_call (R := fun s2 => ∃ h' tk L, s2 = { s with heap := h', toks := tk } ∧ SetS P w h' s.heap.objs.size L ∧ L.length ≤ ks.length ∧ (∀ x, x ∈ L ↔ x ∈ ks) ∧ ∀ b o, s.heap.get? b = some o → h'.get? b = some o) (.ref l) (codeAny_call_builtin F.called_set.init.plain F.entry_set_init (check_set_init_1 hT ?_)) fun s2 ⟨h', tk, L, e, q1, q2, q3, q4⟩ => by rw [e]; exact h h' tk L q1 q2 q3 q4
  have hsls := F.sub_tuple_set
  have hslf := F.sub_tuple_frozenset
  have hne : (Value.type "tuple" == Value.type "dict") = false := by decide
  unfold Builtin.«set.__init__» noKeywords Builtin.Frozenset.updateFrom
  generalize hPI : pyIter = PI
  wp_walk
  subst hPI
  refine wpAny_pyIter_tuple hl1 ?_
  refine wpAny_bind (wpAny_runValue ?_)
  have hlS : l < s.heap.objs.size := Heap.lt_size hol
  have sz : (s.heap.push (freshSet w)).objs.size = s.heap.objs.size + 1 := Heap.size_push ..
  obtain ⟨ln, txt⟩ := txt_at hi
  rw [Array.length_toList] at ln
  refine put_texts ((Walks.tuple (by simp [hh]) _ l (by rw [sz]; exact Nat.ne_of_lt (Nat.lt_succ_of_lt hlS)) items).toS) s.heap.objs.size ?_ ks ln few (fun i v hv => txt i v (by rw [Array.getElem?_toList]; exact hv)) (items.size - 0) 0 _ (by omega) (Nat.zero_le _)
    ⟨⟨_, Heap.get?_push_size _ rfl, rfl, rfl⟩, hl1.push _⟩ ⟨[], Nat.le_refl _, fun x => by rw [List.take_zero], SetS.fresh (Heap.get?_push_of_some _ hS)⟩ fun s' L mv hL mem hS' => ?_
  · rw [sz]
    simp only [List.mem_cons, List.not_mem_nil, or_false, not_or]
    exact ⟨Nat.ne_of_lt (Nat.lt_succ_self _), Nat.ne_of_gt hlS⟩
  · obtain ⟨h', g2, d', tk', os'⟩ := s'
    have eg : g2 = s.gens := mv.gens
    have ed : d' = s.drawn := mv.drawn
    have eo : os' = s.os := mv.os
    subst eg
    subst ed
    subst eo
    show wpAny _ _ _ _ _ _
    refine wpAny_pure ?_
    show wpAny _ _ (ret Value.none) _ _ _
    refine wpAny_pure ⟨rfl, h', tk', L, rfl, hS', by omega, mem, fun b o e => ?_⟩
    have hb : b < s.heap.objs.size := Heap.lt_size e
    refine mv.heap b o ?_ (Heap.get?_push_of_some _ (Heap.get?_push_of_some _ e))
    simp only [List.mem_cons, List.not_mem_nil, or_false, not_or]
    exact ⟨Nat.ne_of_lt hb, by show b ≠ (s.heap.push (freshSet w)).objs.size; rw [sz]; exact Nat.ne_of_lt (Nat.lt_succ_of_lt hb)⟩
end


end My
namespace My
open PySem PySem.Spec PyProof.Rows L2 TL
/-! ### sorted(a set of texts); set and sorted as calls -/
section
open PySem.Froz
variable {P : Program} {w : World} {A : Around} {E : Value → Shared → Prop} {s : Shared}
theorem SetS.sorted {a : Addr} {L : List Str} {Q : Value → Shared → Prop} (R : SetS P w s.heap a L) (hh : A.handled = none) (h64 : L.length < 64)
    (h : ∀ s' p (out : Array Value) (c : Nat) (ys : List Str), (∀ b o, s.heap.get? b = some o → s'.heap.get? b = some o) → s'.gens = s.gens → s'.os = s.os → s.heap.objs.size ≤ p → s'.heap.get? p = some (seqObj "list" out c) →
      StrsAre out.toList ys → ys.Perm L → ys.Nodup → sortedS ys = true → Q (.ref p) s') : wpAny (model P w) A (call (.builtin "sorted") [.ref a]) Q E s := by
  obtain ⟨⟨es, ep, t⟩, ho, ok, nd, rows, str, ris, led⟩ := R
  have hsz : es.size = L.length := ok.sz
  refine Calls.call_function_entry kind_sorted plain_sorted entry_sorted (args_sorted1 _) ?_
  unfold Builtin.«sorted»
  refine wpAny_bind (m := checkCount "sorted" 1 1 _) (wpAny_pure ?_)
  refine wpAny_bind (collect_set (A := A.in1) hh ⟨_, ho, rfl, rfl⟩ ok.fit (by show es.size < scanBound; rw [hsz]; unfold scanBound; omega) ris led fun s1 vs k1 hz g1 o1 pm => ?_)
  have S0 : StrsAre vs (vs.map strOf) := strsAre_map vs fun v hv => str v (pm.mem_iff.mp hv)
  have pk : (vs.map strOf).Perm L := (pm.map strOf).trans rows
  have ln : vs.length = L.length := by rw [← pk.length_eq, List.length_map]
  refine wpAny_bind (wpAny_newList ?_ (by rw [ln, sizeLine_eq]; omega))
  have hoL : (s1.heap.push (seqObj "list" vs.toArray 0)).get? s1.heap.objs.size = some (seqObj "list" vs.toArray 0) := Heap.get?_push_size _ rfl
  refine wpAny_bind (wpAny_holding (wpAny_call_entry slot_list_sort ⟨_, hoL, rfl⟩ entry_list_sort
    (list_sort_treeK strKind_oneLt (s := { s1 with heap := s1.heap.push (seqObj "list" vs.toArray 0) }) hoL S0.keysOf (fun v₁ v₂ rest e => keyKind_strs (by rw [← e]; exact S0)) (by rw [ln]; exact h64) fun st' hp hs => ⟨_, rfl, ?_⟩) (args_list_sort _)))
  obtain ⟨ys, y1, y2, y3⟩ := sorted_out_str S0 hp hs
  obtain ⟨c, hc⟩ := sortedHeap_at (vs := vs) (out := (arrOf st').map (·.2)) hoL
  have pL := y2.trans pk
  refine wpAny_pure ⟨_, rfl, h _ s1.heap.objs.size _ c ys (fun b u e => ?_) g1 o1 hz hc y1 pL (pL.nodup_iff.mpr nd) y3⟩
  have e1 := k1 b u e
  have lt := Heap.lt_size e1
  show (sortedHeap (s1.heap.push (seqObj "list" vs.toArray 0)) s1.heap.objs.size vs _).get? b = some u
  rw [sortedHeap_old (Nat.ne_of_lt lt) (by rw [size_push']; exact Nat.lt_succ_of_lt lt)]
  exact Heap.get?_push_of_some _ e1
end
/-- the set of texts at a, in the drawn heap -/
def SetSO (P : Program) (w : World) (a : Addr) (L : List Str) : HO := .ext fun h => SetS P w h a L
theorem setSO_new {w : World} {P : Program} {H : Hp} {h : Heap} {a : Addr} {L : List Str} (R : SetS P w h a L) : ObjOk P w H h a (SetSO P w a L) := by
  have ⟨D, ho, _⟩ := R
  exact ⟨R, ⟨_, ho⟩, fun h1 h2 p k => SetS.at p k⟩
section
variable {X : Cx}
/-- set(x), x a tuple of texts -/
def rSetS (K : PySem.W.Frag) (P : Program) (w : World) : List V → Hp → VK → Prop := fun xs H Q => ∃ (l : Addr) (ks : List Str), xs = [V.ref l] ∧ SqT K H l (ks.map V.str) ∧ ks.length < 64 ∧
  ∀ a L, H a = none → L.length ≤ ks.length → (∀ x, x ∈ L ↔ x ∈ ks) → Q (.ref a) (upd H a (SetSO P w a L))
theorem cr_setS (hc : X.calm = true) : CallR X (.type "set") (rSetS X.K X.prog X.w) := by
  intro pins s σ H xs us Q I r h
  obtain ⟨l, ks, rfl, hl, hf, q⟩ := h
  rw [Vals.ref1 r]
  obtain ⟨its, rv, ⟨o, ho, hc1, n, hd⟩, hz⟩ := I.tuple hl
  refine set_tup (P := X.prog) (w := X.w) (ks := ks) (I.ok.hd hc) ⟨o, ho, hc1, n, hd⟩ (by simpa using strsAre_of rv) (by unfold scanBound; omega) fun h' tk L R hL mem k => ?_
  exact ⟨.ref s.heap.objs.size, upd H s.heap.objs.size (SetSO X.prog X.w s.heap.objs.size L), I.laid (t' := tk) k (Nat.le_refl _) (setSO_new R), rfl, q _ L (I.hok.fresh (Nat.le_refl _)) hL mem⟩
/-- sorted(x), x a set of fewer than 64 texts -/
def rSortS (P : Program) (w : World) : List V → Hp → VK → Prop := fun xs H Q => ∃ (a : Addr) (L : List Str), xs = [V.ref a] ∧ H a = some (SetSO P w a L) ∧ L.length < 64 ∧
  ∀ (ys : List Str) (p : Addr), ys.Perm L → ys.Nodup → sortedS ys = true → H p = none → Q (.ref p) (upd H p (.lst (ys.map V.str)))
theorem vals_strs : ∀ {us : List Value} {ys : List Str}, StrsAre us ys → Vals (ys.map V.str) us
  | _, _, .nil => .nil
  | _, _, .cons n t r => .cons ⟨t, rfl⟩ (vals_strs r)
theorem cr_sortS (hc : X.calm = true) : CallR X (.builtin "sorted") (rSortS X.prog X.w) := by
  intro pins s σ H vs us Q I r h
  obtain ⟨a, L, rfl, ha, h64, q⟩ := h
  rw [Vals.ref1 r]
  have R : SetS X.prog X.w s.heap a L := (I.hok a _ ha).1
  refine R.sorted (I.ok.hd hc) h64 fun s' p out c ys k g o hp hg hs pm nd so => ?_
  have hlen : (ys.map V.str).length ≤ sizeLine := by rw [List.length_map, pm.length_eq, sizeLine_eq]; omega
  have hn : H p = none := I.hok.fresh hp
  have J : Inv X pins σ (upd H p (.lst (ys.map V.str))) { s with heap := s'.heap, gens := s'.gens, drawn := s'.drawn, toks := s'.toks } :=
    I.call (ch := []) (Un.laid k hp hn) (I.hok.laid k hp ⟨hlen, out.toList, c, vals_strs hs, hg⟩) (by rw [g]; exact I.bare) (fun _ z => nomatch z)
  have e : s' = { s with heap := s'.heap, gens := s'.gens, drawn := s'.drawn, toks := s'.toks } := by
    cases s'
    cases s
    cases o
    rfl
  rw [e]
  exact ⟨.ref p, _, J, rfl, q ys p pm nd so hn⟩
end


end My
namespace My
open PySem PySem.Spec PyProof.Rows L2 TL
/-! ### set(x), x a list of texts -/
section
open PySem.Froz
variable {P : Program} {w : World} {A : Around} {E : Value → Shared → Prop} {s : Shared}
/-- the walk over a tuple or a list puts its texts into the new set -/
theorem set_lst {l : Addr} {items : Array Value} {ks : List Str} {Q : Value → Shared → Prop} (hh : A.handled = none) (hl : s.heap.IsList l items) (hi : StrsAre items.toList ks) (few : ks.length + 1 < scanBound)
    (h : ∀ (h' : Heap) (tk : Nat) L, SetS P w h' s.heap.objs.size L → L.length ≤ ks.length → (∀ x, x ∈ L ↔ x ∈ ks) → (∀ b o, s.heap.get? b = some o → h'.get? b = some o) → Q (.ref s.heap.objs.size) { s with heap := h', toks := tk }) :
    wpAny (model P w) A (call (.type "set") [.ref l]) Q E s := by
  obtain ⟨⟨ocls, odict, odata, oslots⟩, hol, hcl, ⟨nl, hdl⟩⟩ := hl
  simp only at hcl hdl
  subst hcl
  subst hdl
  have hS : (s.heap.push (freshSet w)).get? s.heap.objs.size = some (freshSet w) := Heap.get?_push_size _ rfl
  have hT : Shared.TypeIs { s with heap := s.heap.push (freshSet w) } (.ref s.heap.objs.size) "set" := ⟨_, hS, rfl⟩
  have hol' : (s.heap.push (freshSet w)).get? l = some { cls := .type "list", dict := odict, data := .seq items nl, slots := oslots } := Heap.get?_push_of_some _ hol
  have hl1 : (s.heap.push (freshSet w)).IsList l items := ⟨_, hol', rfl, nl, rfl⟩
  refine set_call (R := fun s2 => ∃ h' tk L, s2 = { s with heap := h', toks := tk } ∧ SetS P w h' s.heap.objs.size L ∧ L.length ≤ ks.length ∧ (∀ x, x ∈ L ↔ x ∈ ks) ∧ ∀ b o, s.heap.get? b = some o → h'.get? b = some o) (.ref l) (codeAny_call_builtin F.called_set.init.plain F.entry_set_init (check_set_init_1 hT ?_)) fun s2 ⟨h', tk, L, e, q1, q2, q3, q4⟩ => by rw [e]; exact h h' tk L q1 q2 q3 q4
  have hsls := F.sub_list_set
  have hslf := F.sub_list_frozenset
  have hne : (Value.type "list" == Value.type "dict") = false := by decide
  unfold Builtin.«set.__init__» noKeywords Builtin.Frozenset.updateFrom
  generalize hPI : pyIter = PI
  wp_walk
  subst hPI
  refine wpAny_pyIter_list hl1 ?_
  refine wpAny_bind (wpAny_runValue ?_)
  have hlS : l < s.heap.objs.size := Heap.lt_size hol
  have sz : (s.heap.push (freshSet w)).objs.size = s.heap.objs.size + 1 := Heap.size_push ..
  obtain ⟨ln, txt⟩ := txt_at hi
  rw [Array.length_toList] at ln
  refine put_texts ((Walks.list (by simp [hh]) _ l (by rw [sz]; exact Nat.ne_of_lt (Nat.lt_succ_of_lt hlS)) items).toS) s.heap.objs.size ?_ ks ln few (fun i v hv => txt i v (by rw [Array.getElem?_toList]; exact hv)) (items.size - 0) 0 _ (by omega) (Nat.zero_le _)
    ⟨⟨_, Heap.get?_push_size _ rfl, rfl, rfl⟩, hl1.push _⟩ ⟨[], Nat.le_refl _, fun x => by rw [List.take_zero], SetS.fresh (Heap.get?_push_of_some _ hS)⟩ fun s' L mv hL mem hS' => ?_
  · rw [sz]
    simp only [List.mem_cons, List.not_mem_nil, or_false, not_or]
    exact ⟨Nat.ne_of_lt (Nat.lt_succ_self _), Nat.ne_of_gt hlS⟩
  · obtain ⟨h', g2, d', tk', os'⟩ := s'
    have eg : g2 = s.gens := mv.gens
    have ed : d' = s.drawn := mv.drawn
    have eo : os' = s.os := mv.os
    subst eg
    subst ed
    subst eo
    show wpAny _ _ _ _ _ _
    refine wpAny_pure ?_
    show wpAny _ _ (ret Value.none) _ _ _
    refine wpAny_pure ⟨rfl, h', tk', L, rfl, hS', by omega, mem, fun b o e => ?_⟩
    have hb : b < s.heap.objs.size := Heap.lt_size e
    refine mv.heap b o ?_ (Heap.get?_push_of_some _ (Heap.get?_push_of_some _ e))
    simp only [List.mem_cons, List.not_mem_nil, or_false, not_or]
    exact ⟨Nat.ne_of_lt hb, by show b ≠ (s.heap.push (freshSet w)).objs.size; rw [sz]; exact Nat.ne_of_lt (Nat.lt_succ_of_lt hb)⟩
end
section
variable {X : Cx}
/-- set(x), x a tuple or a list of texts -/
def rSetE (K : PySem.W.Frag) (P : Program) (w : World) : List V → Hp → VK → Prop := fun xs H Q => ∃ (l : Addr) (ks : List Str), xs = [V.ref l] ∧ (SqT K H l (ks.map V.str) ∨ SqL K H l (ks.map V.str)) ∧ ks.length < 64 ∧
  ∀ a L, H a = none → L.length ≤ ks.length → (∀ x, x ∈ L ↔ x ∈ ks) → Q (.ref a) (upd H a (SetSO P w a L))
theorem cr_setE (hc : X.calm = true) : CallR X (.type "set") (rSetE X.K X.prog X.w) := by
  intro pins s σ H xs us Q I r h
  obtain ⟨l, ks, rfl, hl, hf, q⟩ := h
  rcases hl with hl | hl
  · exact cr_setS hc pins s σ H _ us Q I r ⟨l, ks, rfl, hl, hf, q⟩
  · rw [Vals.ref1 r]
    obtain ⟨its, rv, p, hz⟩ := I.list hl
    refine set_lst (P := X.prog) (w := X.w) (ks := ks) (I.ok.hd hc) p.isList (by simpa using strsAre_of rv) (by unfold scanBound; omega) fun h' tk L R hL mem k => ?_
    exact ⟨.ref s.heap.objs.size, upd H s.heap.objs.size (SetSO X.prog X.w s.heap.objs.size L), I.laid (t' := tk) k (Nat.le_refl _) (setSO_new R), rfl, q _ L (I.hok.fresh (Nat.le_refl _)) hL mem⟩
end


end My
namespace My
open PySem PySem.Spec PyProof.Rows L2 TL
/-! ### operators of an own class, by the promises of its methods -/
section
variable {X : Cx}
/-- the def at f, called with such values, keeps sp; E is what is wished if it raises -/
def Runs (X : Cx) (f : Addr) (sp : Sp) (E : XK) : Prop := ∀ (pins : List (Addr × Obj)) (σ : L2.St) (H : Hp) (s : Shared) (Q : VK) (us : List Value) (vs : List V), Inv X pins σ H s → Vals vs us → sp vs H Q E →
  wpAny (model X.prog X.w) X.A (call (.ref f) us) (EP X pins σ Q) X.xe s
/-- the same one built-in deeper -/
def Runs1 (X : Cx) (f : Addr) (sp : Sp) (E : XK) : Prop := ∀ (pins : List (Addr × Obj)) (σ : L2.St) (H : Hp) (s : Shared) (Q : VK) (us : List Value) (vs : List V), Inv X pins σ H s → Vals vs us → sp vs H Q E →
  wpAny (model X.prog X.w) X.A.in1 (call (.ref f) us) (EP X pins σ Q) X.xe s
variable {k : Nat} {f : Addr} {fd : FuncData} {ps : List Str} {sp : Sp} {E : XK} {CX : CXT} {C : Addr}
theorem Runs.ofG (F : FnOkG X.prog X.w X.K X.mg X.base CX k f fd ps sp) (room : Room k X.A) (still : X.A.guards = some []) (binds : Binds X.K fd ps []) (pass : Passes CX X E) : Runs X f sp E :=
  fun pins σ H s Q us vs I r h => run_fnG (dvs := []) F room still binds .nil pass I r (by rw [List.append_nil]; exact h)
theorem Runs.of (F : FnOk X.prog X.w X.K X.mg X.base CX k f fd ps sp) (room : Room k X.A) (binds : Binds X.K fd ps []) (pass : Passes CX X E) : Runs X f sp E :=
  fun pins σ H s Q us vs I r h => run_fn (dvs := []) F room binds .nil pass I r (by rw [List.append_nil]; exact h)
theorem Runs1.of (F : FnOk X.prog X.w X.K X.mg X.base CX k f fd ps sp) (room : Room (k + 1) X.A) (binds : Binds X.K fd ps []) (pass : Passes CX X E) : Runs1 X f sp E := by
  intro pins σ H s Q us vs I r h
  have len : (us ++ []).length = ps.length := by rw [List.append_nil, ← r.length]; exact F.len _ _ _ _ h
  have ran := F.run X.A.in1 X.stack s H ⟨us, []⟩ (us ++ []) vs Q E room.in1 I.env0.in1 (binds s us I.kIn len) (by rw [List.append_nil]; exact r) h
  refine wpAny_call (codeAny_mono ran ?_)
  intro r s' h
  match r, h with
  | .error e, h => exact pass pins σ H s e s' I h
  | .ok (.ret u), h => exact I.after h
  | .ok .next, h => exact False.elim h
  | .ok .brk, h => exact False.elim h
  | .ok .cont, h => exact False.elim h
theorem ep_back {pins : List (Addr × Obj)} {σ : L2.St} {Q : VK} {u : Value} {s' : Shared} (h : EP X pins σ Q u s') : PySem.W.CmpBack (EP X pins σ Q) u s' := by
  obtain ⟨v, H', I, r, q⟩ := h
  have no : u ≠ .notImplemented := fun z => by
    subst z
    cases v <;> first | (obtain ⟨_, z⟩ := r; exact nomatch z) | exact nomatch (show Value.notImplemented = _ from r)
  cases u <;> first | exact ⟨v, H', I, r, q⟩ | exact absurd rfl no
/-- an instance, as the library sees it -/
theorem inst_at {pins : List (Addr × Obj)} {σ : L2.St} {H : Hp} {s : Shared} {a dx : Addr} {fs : List (Str × V)} (I : Inv X pins σ H s) (h : H a = some (.ins C dx fs)) : ∃ od, PySem.W.InstAt s.heap a (PySem.W.instObj C dx) C (some od) := by
  obtain ⟨mA, O, _⟩ := ins_get I.hok h
  obtain ⟨od, J, _⟩ := O.look
  exact ⟨od, J⟩
/-- x op y, both of the class -/
def rOwn (C : Addr) (sp : Sp) (E : XK) : R2 := fun x y H Q => ∃ a dx fs b dx2 fs2, x = .ref a ∧ y = .ref b ∧ H a = some (.ins C dx fs) ∧ H b = some (.ins C dx2 fs2) ∧ sp [x, y] H Q E
theorem op_own {op : Operator} (R : Runs X f sp E) (first : PySem.W.selfFirst X.K C = true) (there : PySem.W.findIn X.K (.ref C) (PySem.dunder op.info.2) = some (some (.ref f))) (fn : PySem.W.isFn X.K (.ref f) = true) : OpR X (binaryOp op) (rOwn C sp E) := by
  intro pins s σ H x y u v Q I rx ry h
  obtain ⟨a, dx, fs, b, dx2, fs2, rfl, rfl, ha, hb, q⟩ := h
  cases rx
  cases ry
  obtain ⟨od, J⟩ := inst_at I ha
  obtain ⟨od2, J2⟩ := inst_at I hb
  obtain ⟨m, fr⟩ := I.fr
  refine PySem.W.binop_K fr I.ok.mod.kin J J2.type first there fn ?_
  exact wpAny_mono (R pins σ H s Q [.ref a, .ref b] [.ref a, .ref b] I (.cons rfl (.cons rfl .nil)) q) (fun _ _ z => ep_back z) fun _ _ z => z
theorem op_ownEq (R : Runs X f sp E) (room : X.A.units < cLine) (first : PySem.W.notFirst X.K C (.ref C) = true) (there : PySem.W.findIn X.K (.ref C) "__eq__" = some (some (.ref f))) (fn : PySem.W.isFn X.K (.ref f) = true) : OpR X (compareOp .Eq) (rOwn C sp E) := by
  intro pins s σ H x y u v Q I rx ry h
  obtain ⟨a, dx, fs, b, dx2, fs2, rfl, rfl, ha, hb, q⟩ := h
  cases rx
  cases ry
  obtain ⟨od, J⟩ := inst_at I ha
  obtain ⟨od2, J2⟩ := inst_at I hb
  obtain ⟨m, fr⟩ := I.fr
  refine PySem.W.cmp_K (op := .Eq) room fr I.ok.mod.kin J J2.type first there fn ?_
  exact wpAny_mono (R pins σ H s Q [.ref a, .ref b] [.ref a, .ref b] I (.cons rfl (.cons rfl .nil)) q) (fun _ _ z => ep_back z) fun _ _ z => z
/-- x != y where the class has __eq__ alone -/
def rOwnNe (C : Addr) (sp : Sp) (E : XK) : R2 := fun x y H Q => ∃ a dx fs b dx2 fs2, x = .ref a ∧ y = .ref b ∧ H a = some (.ins C dx fs) ∧ H b = some (.ins C dx2 fs2) ∧ sp [x, y] H (fun v H' => ∃ c, v = .bl c ∧ Q (.bl (!c)) H') E
theorem op_ownNe (R : Runs1 X f sp E) (room : X.A.units + 1 < cLine) (first : PySem.W.notFirst X.K C (.ref C) = true) (ne : PySem.W.findIn X.K (.ref C) "__ne__" = some (some (.builtin "object.__ne__"))) (under : PySem.W.subIn X.K (.ref C) (.type "object") = some true)
    (there : PySem.W.findIn X.K (.ref C) "__eq__" = some (some (.ref f))) (fn : PySem.W.isFn X.K (.ref f) = true) : OpR X (compareOp .NotEq) (rOwnNe C sp E) := by
  intro pins s σ H x y u v Q I rx ry h
  obtain ⟨a, dx, fs, b, dx2, fs2, rfl, rfl, ha, hb, q⟩ := h
  cases rx
  cases ry
  obtain ⟨od, J⟩ := inst_at I ha
  obtain ⟨od2, J2⟩ := inst_at I hb
  have K' := I.kIn
  have sub : PySem.W.Looks (model X.prog X.w) s.heap (isInstance (.ref a) (.type "object")) true := J.type.andThen (PySem.W.looks_subIn K' under)
  -- object.__ne__ asks __eq__ and turns the answer round
  have body : wpAny (model X.prog X.w) X.A (tryCompare (.ref a) "__ne__" (.ref b)) (fun r s' => ∃ w, r = some w ∧ EP X pins σ Q w s') X.xe s := by
    unfold tryCompare
    refine wpAny_bind ?_
    simp only [callSpecialIfBound?, bindSpecialIfBound?]
    refine wpAny_holding (wpAny_bind (wpAny_bind (wpAny_bind (J.type.here ((PySem.W.looks_findIn K' ne).here ?_)))))
    simp only [PySem.F.cmp_object.ne.bind]
    have fin : wpAny (model X.prog X.w) X.A (call (.builtin "object.__ne__") [.ref a, .ref b]) (fun w s' => EP X pins σ Q w s' ∧ w ≠ .notImplemented) X.xe s := by
      refine wpAny_call (codeAny_call_builtin PySem.F.cmp_object.ne.plain PySem.F.cmpEntry_ne (@PySem.W.check_slot (model X.prog X.w) _ _ s "object.__ne__" "object" "__ne__" (.ref a) [.ref b] [] _ PySem.F.cmpKind_ne PySem.F.cmpSplit_ne sub (PySem.F.cmpArgs_ne _ _) ?_))
      unfold Builtin.«object.__ne__»
      refine wpAny_bind (m := slotArgs "__ne__" 1 _) (wpAny_pure ?_)
      refine wpAny_bind (wpAny_cRoomFor (by show X.A.units + 1 < cLine; exact room) (wpAny_bind ?_))
      refine PySem.W.ifBound_K K' J there fn (wpAny_mono (R pins σ H s _ [.ref a, .ref b] [.ref a, .ref b] I (.cons rfl (.cons rfl .nil)) q) (fun w s' z => ?_) fun _ _ z => z)
      obtain ⟨v, H', I', r, c, rfl, q'⟩ := z
      cases r
      refine wpAny_bind (wpAny_truthy_bool ?_)
      exact wpAny_pure ⟨⟨.bl (!c), H', I', rfl, q'⟩, fun z => nomatch z⟩
    refine wpAny_bind (wpAny_askSetting (wpAny_ite ?_))
    split
    · refine wpAny_bind (wpAny_pure (wpAny_pure (wpAny_bind (wpAny_mono fin (fun w s' z => wpAny_pure ?_) fun _ _ z => z))))
      obtain ⟨z, no⟩ := z
      cases w <;> first | exact absurd rfl no | exact wpAny_pure ⟨_, rfl, z⟩
    · refine wpAny_tryCatch (wpAny_bind (wpAny_pure (wpAny_pure (wpAny_bind (wpAny_mono fin (fun w s' z => wpAny_pure ?_) fun _ _ z => z)))))
      obtain ⟨z, no⟩ := z
      cases w <;> first | exact absurd rfl no | exact wpAny_pure ⟨_, rfl, z⟩
  show wpAny (model X.prog X.w) X.A (richCompare .NotEq (.ref a) (.ref b)) _ _ _
  unfold richCompare
  simp only [oneThing_ref]
  refine wpAny_holding (wpAny_bind (wpAny_cRoomFor (by omega) ?_))
  refine wpAny_bind (J.type.here (wpAny_bind (J2.type.here ?_)))
  simp only [bne_self_eq_false, Bool.false_eq_true, if_false]
  refine wpAny_bind (wpAny_pure ?_)
  refine wpAny_bind (wpAny_mono body (fun r s' z => ?_) fun _ _ z => z)
  obtain ⟨w, rfl, z⟩ := z
  exact wpAny_pure z
end
/-! ### defs, methods, properties, makers that look at no guard, by their promises -/
structure CalN (P : Program) (w : World) (K : PySem.W.Frag) (mg : Str → Option Value) (base : Heap) (x : Str) (k : Nat) (ps : List Str) (sp : Sp) : Prop where
  ex : ∃ f fd, FnOk P w K mg base CX0 k f fd ps sp ∧ mg x = some (.ref f) ∧ PySem.W.keepIn K (.ref f) = true ∧ Binds K fd ps []
theorem CalN.of {P : Program} {w : World} {K : PySem.W.Frag} {mg : Str → Option Value} {base : Heap} {x q : Str} {k : Nat} {ps : List Str} {sp : Sp} {st : Stmt} {f : Addr} {fd : FuncData}
    (F : Fun K x q st f fd) (hm : mg x = some (.ref f)) (hb : Binds K fd ps []) (ok : FnOk P w K mg base CX0 k f fd ps sp) : CalN P w K mg base x k ps sp := ⟨f, fd, ok, hm, F.kp, hb⟩
theorem CalN.lift {P : Program} {w : World} {K : PySem.W.Frag} {mg : Str → Option Value} {base : Heap} {x : Str} {k : Nat} {ps : List Str} {sp : Sp} (c : CalN P w K mg base x k ps sp) : Cal P w K mg base x k ps sp := by
  obtain ⟨f, fd, ok, hm, kp, hb⟩ := c.ex
  exact ⟨f, fd, .lift ok, hm, kp, hb⟩
structure MetC (P : Program) (w : World) (K : PySem.W.Frag) (mg : Str → Option Value) (base : Heap) (C : Addr) (m : Str) (k : Nat) (ps : List Str) (sp : Sp) : Prop where
  ex : ∃ f fd, FnOk P w K mg base CX0 k f fd ps sp ∧ Meth K C m f ∧ Binds K fd ps []
structure PrpC (P : Program) (w : World) (K : PySem.W.Frag) (mg : Str → Option Value) (base : Heap) (C : Addr) (m : Str) (k : Nat) (ps : List Str) (sp : Sp) : Prop where
  ex : ∃ p g fd, FnOk P w K mg base CX0 k g fd ps sp ∧ PropOf K C m p g ∧ Binds K fd ps []
structure MakC (P : Program) (w : World) (K : PySem.W.Frag) (mg : Str → Option Value) (base : Heap) (C : Addr) (k : Nat) (ps : List Str) (sp : Sp) : Prop where
  ex : ∃ f fd, FnOk P w K mg base CX0 k f fd ps sp ∧ Mk K C f ∧ Binds K fd ps []
section
variable {X : Cx} {x m : Str} {k : Nat} {ps : List Str} {sp : Sp} {e o : Expr} {es : List Expr} {ta : TE} {t : TA} {p pos apos : Pos} {C : Addr}
theorem pe_callN (c : CalN X.prog X.w X.K X.mg X.base x k ps sp) (room : Room k X.A) (hg : Gl X x) (ha : PA X (e :: es) t) (hdb : (x == ("__debug__" : Str)) = false := by decide)
    (he : starEach (e :: es) X.env = (false, eval e X.env) :: starEach es X.env := by rfl) (hpl : (backTo pos (starEach es X.env)).any (·.1) = false := by rfl) :
    PE X (.Call (.Name x p) (e :: es) [] pos) (tCall sp [] E0 t) := by
  obtain ⟨f, fd, ok, hm, kp, hb⟩ := c.ex
  exact pe_call ok room hg hm kp hb .nil pass0 ha hdb he hpl
theorem pe_methC {pl : Sem Bool} (c : MetC X.prog X.w X.K X.mg X.base C m k ps sp) (cls : Cls X.K C) (room : Room k X.A) (ho : PE X o ta) (ha : PA X (e :: es) t)
    (hst : starEach (e :: es) X.env = (false, eval e X.env) :: starEach es X.env := by rfl) (hpl : (backTo pos (starEach es X.env)).any (·.1) = false := by rfl)
    (ht : eval (.Call (.Attribute o m apos) (e :: es) [] pos) X.env = (do
      let ov ← eval o X.env
      standAt apos.atName
      let (f, first) ← holding [ov] (getMethod ov m pl)
      callWith pos f first (backTo pos (starEach (e :: es) X.env)) (backToKw pos (keywordEach [] X.env))) := by rfl) :
    PE X (.Call (.Attribute o m apos) (e :: es) [] pos) (tMeth C m sp [] E0 ta t) := by
  obtain ⟨f, fd, ok, hm, hb⟩ := c.ex
  exact pe_meth ho cls hm ok room hb .nil pass0 ha hst hpl ht
theorem pe_propC (c : PrpC X.prog X.w X.K X.mg X.base C m k ps sp) (cls : Cls X.K C) (room : Room (k + 1) X.A) (he : PE X e ta) (hab : attributeBase e m X.env (eval e X.env) = eval e X.env := by rfl) :
    PE X (.Attribute e m pos) (tProp C sp [] E0 ta) := by
  obtain ⟨q, g, fd, ok, hp, hb⟩ := c.ex
  exact pe_prop he cls hp ok room hb .nil pass0 hab
theorem pe_makeC (c : MakC X.prog X.w X.K X.mg X.base C k ps sp) (room : Room (k + 1) X.A) (hg : Gl X x) (hm : X.mg x = some (.ref C)) (ha : PA X (e :: es) t) (hdb : (x == ("__debug__" : Str)) = false := by decide)
    (he : starEach (e :: es) X.env = (false, eval e X.env) :: starEach es X.env := by rfl) (hpl : (backTo pos (starEach es X.env)).any (·.1) = false := by rfl) :
    PE X (.Call (.Name x p) (e :: es) [] pos) (tMake C sp [] E0 t) := by
  obtain ⟨f, fd, ok, M, hb⟩ := c.ex
  exact pe_make M ok room hg hm hb .nil pass0 ha hdb he hpl
theorem op_ownC {op : Operator} (c : MetC X.prog X.w X.K X.mg X.base C m k ps sp) (room : Room k X.A) (first : PySem.W.selfFirst X.K C = true) (name : PySem.dunder op.info.2 = m := by rfl) : OpR X (binaryOp op) (rOwn C sp E0) := by
  obtain ⟨f, fd, ok, M, hb⟩ := c.ex
  exact op_own (Runs.of ok room hb pass0) first (name ▸ M.at_) M.fn
theorem op_eqC (c : MetC X.prog X.w X.K X.mg X.base C "__eq__" k ps sp) (room : Room k X.A) (first : PySem.W.notFirst X.K C (.ref C) = true) : OpR X (compareOp .Eq) (rOwn C sp E0) := by
  obtain ⟨f, fd, ok, M, hb⟩ := c.ex
  exact op_ownEq (Runs.of ok room hb pass0) room.units0 first M.at_ M.fn
theorem op_neC (c : MetC X.prog X.w X.K X.mg X.base C "__eq__" k ps sp) (room : Room (k + 1) X.A) (first : PySem.W.notFirst X.K C (.ref C) = true) (ne : PySem.W.findIn X.K (.ref C) "__ne__" = some (some (.builtin "object.__ne__")))
    (under : PySem.W.subIn X.K (.ref C) (.type "object") = some true) : OpR X (compareOp .NotEq) (rOwnNe C sp E0) := by
  obtain ⟨f, fd, ok, M, hb⟩ := c.ex
  exact op_ownNe (Runs1.of ok room hb pass0) (by have := room.units; omega) first ne under M.at_ M.fn
end
/-- a property that hands out a field -/
theorem _root_.L2.Fun.getter {P : Program} {w : World} {K : PySem.W.Frag} {mg : Str → Option Value} {base : Heap} {x qual g : Str} {st : Stmt} {f C : Addr} {fd : FuncData} {N : List Str} {p1 p2 p3 : Pos} (F : Fun K x qual st f fd)
    (S : FnScope N ["self"] (defScope st)) (c : Cls K C) (n : NoAttr K C g) (hN : N[0]? = some ("self" : Str) := by rfl) (body : defBody st = [.Return (some (.Attribute (.Name "self" p1) g p2)) p3] := by rfl) : FnOk P w K mg base CX0 1 f fd ["self"] (getSp C g) := by
  obtain ⟨oc, od, kV, doc, pm, an, cv, ct, osl, rfl, found, isCode⟩ := F.ex
  exact fn_getter found isCode S hN body c n
section
variable {X : Cx} {x : Str} {k : Nat} {ps : List Str} {sp : Sp} {e : Expr} {es : List Expr} {tf : TE} {t : TA} {p pos : Pos} {C : Addr}
/-- x(e, ..), x a name of the def that holds the class -/
def tMakeV (C : Addr) (sp : Sp) (tf : TE) (t : TA) : TE := fun σ H Q => tf σ H fun v H1 => v = .ref C ∧ tMake C sp [] E0 t σ H1 Q
theorem pe_makeV (c : MakC X.prog X.w X.K X.mg X.base C k ps sp) (room : Room (k + 1) X.A) (hf : PE X (.Name x p) tf) (ha : PA X (e :: es) t)
    (he : starEach (e :: es) X.env = (false, eval e X.env) :: starEach es X.env := by rfl) (hpl : (backTo pos (starEach es X.env)).any (·.1) = false := by rfl) :
    PE X (.Call (.Name x p) (e :: es) [] pos) (tMakeV C sp tf t) := by
  obtain ⟨f, fd, ok, M, hb⟩ := c.ex
  refine ⟨fun pins s σ H Q I h => wpAny_Call_Name_kw (thn (hf.run pins s σ H _ I h) fun g s0 got => ?_)⟩
  obtain ⟨v, H0, I0, r0, rfl, q0⟩ := got
  cases r0
  exact PySem.W.callWith_K (h₀ := X.base) I0.ok.mod.kin M.kp (thn (ha.run pos pins s0 σ H0 _ I0 q0) fun us s1 ⟨vs, H1, I1, r, q⟩ => ⟨I1.kIn, run_make M ok room hb .nil pass0 I1 r q⟩) he hpl
end

/-! ### max of a list of ints, with a default -/
section
variable {prog : Program} {w : World} {A : Around} {E : Value → Shared → Prop} {s : Shared}
theorem gt_pair {a b : Int} {t u : Tok} {Q : Value → Shared → Prop} (h : Q (.bool (decide (a > b))) s) : wpAny (model prog w) A (richCompare .Gt (.int a t) (.int b u)) Q E s := by
  refine CmpOf.ints_gt (P := fun i v => (i = 0 ∧ v = .int a t) ∨ (i = 1 ∧ v = .int b u)) (fun i => if i = 0 then a else b) ?_ 0 1 _ _ s Q E (.inl ⟨rfl, rfl⟩) (.inr ⟨rfl, rfl⟩) h
  rintro i v (⟨rfl, rfl⟩ | ⟨rfl, rfl⟩)
  · exact ⟨t, rfl⟩
  · exact ⟨u, rfl⟩
/-- the greatest of b and of f j, .., k of them -/
def topOf (f : Nat → Int) : Int → Nat → Nat → Int
  | b, _, 0 => b
  | b, j, k + 1 => topOf f (if f j > b then f j else b) (j + 1) k
theorem topOf_ge (f : Nat → Int) : ∀ (k j : Nat) (b : Int), b ≤ topOf f b j k ∧ ∀ i, i < k → f (j + i) ≤ topOf f b j k
  | 0, _, b => ⟨Int.le_refl _, fun i h => absurd h (Nat.not_lt_zero _)⟩
  | k + 1, j, b => by
    obtain ⟨h1, h2⟩ := topOf_ge f k (j + 1) (if f j > b then f j else b)
    have h0 : b ≤ (if f j > b then f j else b) ∧ f j ≤ (if f j > b then f j else b) := by
      by_cases h : f j > b
      · rw [if_pos h]
        omega
      · rw [if_neg h]
        omega
    refine ⟨Int.le_trans h0.1 h1, fun i hi => ?_⟩
    cases i with
    | zero => exact Int.le_trans h0.2 h1
    | succ i =>
      have := h2 i (by omega)
      rw [show j + 1 + i = j + (i + 1) by omega] at this
      exact this
theorem topOf_mem (f : Nat → Int) : ∀ (k j : Nat) (b : Int), topOf f b j k = b ∨ ∃ i, i < k ∧ topOf f b j k = f (j + i)
  | 0, _, _ => .inl rfl
  | k + 1, j, b => by
    show topOf f (if f j > b then f j else b) (j + 1) k = b ∨ _
    rcases topOf_mem f k (j + 1) (if f j > b then f j else b) with h | ⟨i, hi, h⟩
    · by_cases q : f j > b
      · rw [if_pos q] at h
        exact .inr ⟨0, Nat.succ_pos k, by show topOf f (if f j > b then f j else b) (j + 1) k = f j; rw [if_pos q]; exact h⟩
      · rw [if_neg q] at h
        exact .inl (by rw [if_neg q]; exact h)
    · exact .inr ⟨i + 1, Nat.succ_lt_succ hi, by show topOf f (if f j > b then f j else b) (j + 1) k = f (j + (i + 1)); rw [h]; congr 1; omega⟩
def listObj (vs : Array Value) (c : Nat) : Obj := { cls := .type "list", dict := none, data := .seq vs c, slots := #[] }
variable {R : Result → Shared → Prop} {I best : Addr} {fp wr : List Addr} {n : Nat} {P : Nat → Value → Prop} {St : Nat → Heap → Prop}
theorem max_name : (toString "max" ++ toString ".loop" : String) = "max.loop" := by decide
/-- behind the first item -/
theorem maxd_rest (W : Walks prog w A.in1 I fp wr n P St) (f : Nat → Int) (num : ∀ j v, P j v → ∃ t, v = .int (f j) t) (apart : best ∉ fp) (kw : List (Str × Value)) :
    ∀ (k j : Nat) (t : Shared) (b : Int) (u : Tok) (c : Nat), n = j + k → St j t.heap → t.heap.get? best = some (listObj #[.int b u, .int b u] c) →
      (∀ u' h' tk, (∀ a o, a ∉ wr → a ≠ best → t.heap.get? a = some o → h'.get? a = some o) → R (.ok (.ret (.int (topOf f b j k) u'))) { t with heap := h', toks := tk }) →
      codeAny (model prog w) A (.builtin "max.loop" ⟨[.ref I, .none, .ref best], kw⟩) R t
  | 0, j, t, b, u, c, e, st, there, fin => by
    have notWr : best ∉ wr := fun z => apart (W.sub _ z)
    refine codeAny_builtin PySem.F.entry_max_loop ?_
    rw [Around.under_plainId PySem.F.plain_max_loop _]
    show wpAny _ A.in1 (seqItems? (.ref best) >>= _) _ _ t
    refine wpAny_bind (wpAny_seqItems there
      rfl ?_)
    show wpAny _ A.in1 (tryCatch (pyNext (.ref I)) _ >>= _) _ _ t
    have st' : St n t.heap := by rw [e]; exact st
    refine wpAny_bind (wpAny_tryCatch (W.done t _ _ st' fun h1 tk1 old => ?_))
    have there1 := old best _ notWr there
    show wpAny _ A.in1 (updateSeq best (fun _ => #[]) >>= _) _ _ _
    refine wpAny_bind (wpAny_updateSeq there1 rfl (wpAny_bind
      (wpAny_letGo (wpAny_pure ?_))))
    exact fin u _ tk1 fun a o na nb q => (Heap.get?_update_other _ _ (Ne.symm nb)).trans (old a o na q)
  | k + 1, j, t, b, u, c, e, st, there, fin => by
    have notWr : best ∉ wr := fun z => apart (W.sub _ z)
    refine codeAny_builtin PySem.F.entry_max_loop ?_
    rw [Around.under_plainId PySem.F.plain_max_loop _]
    show wpAny _ A.in1 (seqItems? (.ref best) >>= _) _ _ t
    refine wpAny_bind (wpAny_seqItems there
      rfl ?_)
    show wpAny _ A.in1 (tryCatch (pyNext (.ref I)) _ >>= _) _ _ t
    refine wpAny_bind (wpAny_tryCatch (W.item j t _ _ (by omega) st fun v h1 tk1 pv st1 old => ?_))
    obtain ⟨tv, rfl⟩ := num j v pv
    have there1 := old best _ notWr there
    show wpAny _ A.in1 (tryCatch (holding [Value.int (f j) tv, Value.int (f j) tv] (richCompare .Gt (.int (f j) tv) (.int b u) >>= _)) _ >>= _) _ _ _
    refine wpAny_bind (wpAny_tryCatch (wpAny_holding (wpAny_bind (gt_pair ?_))))
    refine wpAny_bind (wpAny_holding (wpAny_truthy_bool ?_))
    refine wpAny_bind (wpAny_letGo (wpAny_pure ?_))
    by_cases gt : f j > b
    · have top : topOf f b j (k + 1) = topOf f (f j) (j + 1) k := by
        show topOf f (if f j > b then f j else b) (j + 1) k = _
        rw [if_pos gt]
      rw [decide_eq_true gt]
      simp only [if_true]
      refine wpAny_bind (wpAny_updateSeq there1 rfl (wpAny_bind
        (wpAny_letGo ?_)))
      rw [max_name]
      refine wpAny_pure ⟨plainId_quiet PySem.F.plain_max_loop _, maxd_rest W f num apart kw k (j + 1) _ (f j) tv _ (by omega) (W.frame _ _ _ st1 fun a na o q => ?_) (Heap.get?_update_self _ there1 rfl) fun u' h' tk later => ?_⟩
      · exact (Heap.get?_update_other _ _ (fun z : best = a => apart (by rw [z]; exact na))).trans q
      · rw [← top]
        exact fin u' h' tk fun a o na nb q => later a o na nb ((Heap.get?_update_other _ _ (Ne.symm nb)).trans (old a o na q))
    · have top : topOf f b j (k + 1) = topOf f b (j + 1) k := by
        show topOf f (if f j > b then f j else b) (j + 1) k = _
        rw [if_neg gt]
      rw [decide_eq_false gt]
      simp only [Bool.false_eq_true, if_false]
      refine wpAny_bind (wpAny_letGo ?_)
      rw [max_name]
      refine wpAny_pure ⟨plainId_quiet PySem.F.plain_max_loop _, maxd_rest W f num apart kw k (j + 1) _ b u c (by omega) st1 there1 fun u' h' tk later => ?_⟩
      rw [← top]
      exact fin u' h' tk fun a o na nb q => later a o na nb (old a o na q)
theorem args_maxd (a d : Value) : argsOk "max" ⟨[a], [("default", d)]⟩ := by
  unfold argsOk
  kernel_rfl
/-- the loop from its start -/
theorem maxd_loop (W : Walks prog w A.in1 I fp wr n P St) (f : Nat → Int) (num : ∀ j v, P j v → ∃ t, v = .int (f j) t) (apart : best ∉ fp) {z : Int} {tz : Tok} {kn : Str} (t : Shared) (c : Nat) (st : St 0 t.heap) (there : t.heap.get? best = some (listObj #[] c))
    (fin : ∀ m u h' tk, (∀ a o, a ∉ wr → a ≠ best → t.heap.get? a = some o → h'.get? a = some o) → (n = 0 → m = z) → (0 < n → (∃ i, i < n ∧ m = f i) ∧ ∀ i, i < n → f i ≤ m) → R (.ok (.ret (.int m u))) { t with heap := h', toks := tk }) :
    codeAny (model prog w) A (.builtin "max.loop" ⟨[.ref I, .none, .ref best], [(kn, .int z tz)]⟩) R t := by
  have notWr : best ∉ wr := fun z => apart (W.sub _ z)
  refine codeAny_builtin PySem.F.entry_max_loop ?_
  rw [Around.under_plainId PySem.F.plain_max_loop _]
  show wpAny _ A.in1 (seqItems? (.ref best) >>= _) _ _ t
  refine wpAny_bind (wpAny_seqItems there
    rfl ?_)
  show wpAny _ A.in1 (tryCatch (pyNext (.ref I)) _ >>= _) _ _ t
  cases e : n with
  | zero =>
    subst e
    refine wpAny_bind (wpAny_tryCatch (W.done t _ _ st fun h1 tk1 old => ?_))
    refine wpAny_bind (wpAny_rule (wpAny_pure ?_))
    exact fin z tz h1 tk1 (fun a o na _ q => old a o na q) (fun _ => rfl) fun h => absurd h (Nat.lt_irrefl 0)
  | succ k =>
    refine wpAny_bind (wpAny_tryCatch (W.item 0 t _ _ (by omega) st fun v h1 tk1 pv st1 old => ?_))
    obtain ⟨tv, rfl⟩ := num 0 v pv
    have there1 := old best _ notWr there
    show wpAny _ A.in1 (updateSeq best (fun _ => #[Value.int (f 0) tv, Value.int (f 0) tv]) >>= _) _ _ _
    refine wpAny_bind (wpAny_updateSeq there1
      rfl ?_)
    rw [max_name]
    refine wpAny_pure ⟨plainId_quiet PySem.F.plain_max_loop _, maxd_rest W f num apart [(kn, .int z tz)] k 1 _ (f 0) tv _ (by omega) (W.frame _ _ _ st1 fun a na o q => ?_) (Heap.get?_update_self _ there1 rfl) fun u' h' tk later => ?_⟩
    · exact (Heap.get?_update_other _ _ (fun z : best = a => apart (by rw [z]; exact na))).trans q
    · refine fin _ u' h' tk (fun a o na nb q => later a o na nb ((Heap.get?_update_other _ _ (Ne.symm nb)).trans (old a o na q))) (fun h => by omega) fun _ => ?_
      obtain ⟨g1, g2⟩ := topOf_ge f k 1 (f 0)
      refine ⟨?_, fun i hi => ?_⟩
      · rcases topOf_mem f k 1 (f 0) with h | ⟨i, hi, h⟩
        · exact ⟨0, by omega, h⟩
        · exact ⟨1 + i, by omega, h⟩
      · cases i with
        | zero => exact g1
        | succ i =>
          have := g2 i (by omega)
          rw [show 1 + i = i + 1 by omega] at this
          exact this
theorem ints_get : ∀ {its : List Value} {ns : List Int}, IntsAre its ns → ∀ (j : Nat) (v : Value), its[j]? = some v → ∃ t, v = .int (ns.getD j 0) t
  | _, _, .nil, j, v, h => by simp at h
  | _, _, .cons k t r, 0, v, h => ⟨t, (Option.some.inj h).symm⟩
  | _, _, .cons k t r, j + 1, v, h => ints_get r j v h
theorem call_maxd {l : Addr} {its : List Value} {ns : List Int} {z : Int} {tz : Tok} {Q : Value → Shared → Prop} (calm : A.handled = none) (hl : s.heap.IsList l its.toArray) (nums : IntsAre its ns)
    (fin : ∀ m u h' tk, (∀ a o, s.heap.get? a = some o → h'.get? a = some o) → (ns = [] → m = z) → (ns ≠ [] → m ∈ ns ∧ ∀ y ∈ ns, y ≤ m) → Q (.int m u) { s with heap := h', toks := tk }) :
    wpAny (model prog w) A (call (.builtin "max") [.ref l] [("default", .int z tz)]) Q E s := by
  have ok : checkBuiltinCall "max" ⟨[.ref l], [("default", .int z tz)]⟩ = pure () := by
    simp only [checkBuiltinCall, PySem.F.kind_max]
    have h := args_maxd (.ref l) (.int z tz)
    cases e : Manifest.signature? "max" with
    | none => rfl
    | some sig =>
      simp only [argsOk, e] at h
      exact h
  refine wpAny_call (codeAny_call_builtin PySem.F.plain_max PySem.F.entry_max ?_)
  rw [ok]
  refine wpAny_pure ?_
  show wpAny _ A.in1 (Builtin.Builtins.bindParams "max" ["key", "default"] 0 ⟨[], [("default", .int z tz)]⟩ >>= _) _ _ s
  refine wpAny_bind (wpAny_of_eq (show Builtin.Builtins.bindParams "max" ["key", "default"] 0 ⟨[], [("default", .int z tz)]⟩ = pure [none, some (.int z tz)] from rfl) ?_)
  refine wpAny_bind (wpAny_pure ?_)
  have lt : l < s.heap.objs.size := by
    obtain ⟨_, e, _⟩ := hl
    exact Heap.lt_size e
  have len := nums.length
  refine wpAny_bind (wpAny_pyIter_list hl ?_)
  refine wpAny_bind (wpAny_newObj_type ?_)
  rw [max_name]
  have W := Walks.list (prog := prog) (w := w) (A := A.in1) calm s.heap.objs.size l (Nat.ne_of_lt lt) its.toArray
  refine wpAny_pure ⟨plainId_quiet PySem.F.plain_max_loop _, ?_⟩
  refine maxd_loop W (fun i => ns.getD i 0) (fun j v hv => ?_) ?_ _ 0 ?_ (Heap.get?_push_size _ rfl) fun m u h' tk old h0 h1 => ?_
  · exact ints_get nums j v (by simpa using hv)
  · intro hm
    simp only [List.mem_cons, List.not_mem_nil, or_false, Heap.size_push] at hm
    rcases hm with h | h
    · exact absurd h (Nat.succ_ne_self _)
    · exact absurd h (Nat.ne_of_gt (Nat.lt_succ_of_lt lt))
  · exact ⟨⟨_, Heap.get?_push_of_some _ (Heap.get?_push_size _ rfl), rfl, rfl⟩, (hl.push _).push _⟩
  · have size : its.toArray.size = ns.length := by rw [List.size_toArray]; exact len
    refine fin m u h' tk (fun a o q => ?_) (fun e => h0 (by rw [size, e]; rfl)) fun ne => ?_
    · have la : a < s.heap.objs.size := Heap.lt_size q
      refine old a o (fun hm => ?_) (fun e => ?_) (Heap.get?_push_of_some _ (Heap.get?_push_of_some _ q))
      · rw [List.mem_singleton.mp hm] at la
        exact absurd la (Nat.lt_irrefl _)
      · rw [e] at la
        exact absurd (Nat.lt_of_lt_of_le la (by rw [Heap.size_push]; exact Nat.le_succ _)) (Nat.lt_irrefl _)
    · obtain ⟨⟨i, hi, e⟩, top⟩ := h1 (by rw [size]; exact List.length_pos_iff.mpr ne)
      rw [size] at hi top
      refine ⟨?_, fun y hy => ?_⟩
      · rw [e, List.getD_eq_getElem?_getD, List.getElem?_eq_getElem hi]
        exact List.getElem_mem hi
      · obtain ⟨j, hj, e⟩ := List.getElem_of_mem hy
        have := top j hj
        rw [List.getD_eq_getElem?_getD, List.getElem?_eq_getElem hj] at this
        rw [← e]
        exact this
end
section
variable {X : Cx} {e d : Expr} {ta td : TE} {p pos kpos : Pos}
/-- max(e, default=d) -/
def tMaxD (K : PySem.W.Frag) (ta td : TE) : TE := fun σ H Q => ta σ H fun x H1 => tCons td tNil σ H1 fun vs H2 => ∃ y, vs = [y] ∧ ∃ (a : Addr) (ns : List Int) (z : Int), x = .ref a ∧ y = .int z ∧ SqL K H2 a (ns.map V.int) ∧
  ∀ m, (ns = [] → m = z) → (ns ≠ [] → m ∈ ns ∧ ∀ y ∈ ns, y ≤ m) → Q (.int m) H2
theorem pe_maxD (calm : X.calm = true) (hg : Gl X "max") (hm : X.mg "max" = none) (ha : PE X e ta) (hd : PE X d td) (hs : starEach [e] X.env = (false, eval e X.env) :: starEach [] X.env := by rfl)
    (he : backTo pos (starEach [e] X.env) = (false, eval e X.env) :: backTo pos (starEach [] X.env) := by rfl) (hp : (backTo pos (starEach [e] X.env)).any (·.1) = false := by rfl)
    (hall : (backToKw pos (keywordEach [⟨some "default", d, kpos⟩] X.env)).all (·.1.isSome) = true := by rfl) (hkw : (backToKw pos (keywordEach [⟨some "default", d, kpos⟩] X.env)).any (·.1.isNone) = false := by rfl)
    (hn : (backToKw pos (keywordEach [⟨some "default", d, kpos⟩] X.env)).filterMap (·.1) = [("default" : Str)] := by rfl) :
    PE X (.Call (.Name "max" p) [e] [⟨some "default", d, kpos⟩] pos) (tMaxD X.K ta td) := by
  refine ⟨fun pins s σ H Q I h => ?_⟩
  refine wpAny_Call_Name_kw (ld_blt I hg hm (show bootBuiltins "max" = some (.builtin "max") by decide +kernel) ?_)
  refine PyProof.Rows.callWith_kw (id := "max") ?_ he hp hall hkw
  rw [hs]
  show wpAny _ _ (spliced ((false, eval e X.env) :: backTo pos (starEach [] X.env))) _ _ s
  refine Calls.spliced_cons (thn (ha.run pins s σ H _ I h) fun u s1 ⟨x, H1, I1, r1, q1⟩ => ?_)
  refine Calls.spliced_nil ?_
  refine thn ((pk_cons (nm := some "default") (kpos := kpos) hd (pk_nil (X := X))).run pos pins s1 σ H1 (fun vs H2 => ∃ y, vs = [y] ∧ ∃ (a : Addr) (ns : List Int) (z : Int), x = .ref a ∧ y = .int z ∧ SqL X.K H2 a (ns.map V.int) ∧
    ∀ m, (ns = [] → m = z) → (ns ≠ [] → m ∈ ns ∧ ∀ y ∈ ns, y ≤ m) → Q (.int m) H2) I1 q1) ?_
  · rintro us s2 ⟨vs, H2, I2, rv, y, rfl, a, ns, z, rfl, rfl, hl, q⟩
    rw [hn]
    cases rv with
    | cons r2 r3 =>
      cases r3
      obtain ⟨tz, rfl⟩ := r2
      cases r1
      obtain ⟨its, ri, pl, _⟩ := I2.list hl
      show wpAny _ _ (call (.builtin "max") [.ref a] [("default", .int z tz)]) _ _ _
      exact call_maxd (I2.ok.hd calm) pl.isList ri.ints fun m u h' tk old h0 h1 => ⟨.int m, H2, I2.kept old, ⟨u, rfl⟩, q m h0 h1⟩
end


end My
namespace My
open PySem PySem.Spec PyProof.Rows L2 TL
/-! ### len, [], an operator with an int, of an own class; classmethods -/
section
variable {X : Cx} {k : Nat} {f C : Addr} {ps : List Str} {sp : Sp} {E : XK} {e o b : Expr} {es : List Expr} {x m : Str} {ta tb : TE} {t : TA} {p pos apos : Pos}
def rLenO (C : Addr) (sp : Sp) : List V → Hp → VK → Prop := fun xs H Q => ∃ a dx fs, xs = [.ref a] ∧ H a = some (.ins C dx fs) ∧ sp [.ref a] H (fun v H' => ∃ n : Nat, v = .int n ∧ (n : Int) < 2 ^ 63 ∧ Q (.int n) H') E0
theorem call_lenO (c : MetC X.prog X.w X.K X.mg X.base C "__len__" k ps sp) (room : Room (k + 1) X.A) : CallR X (.builtin "len") (rLenO C sp) := by
  obtain ⟨f, fd, ok, M, hb⟩ := c.ex
  intro pins s σ H xs us Q I r h
  obtain ⟨a, dx, fs, rfl, ha, q⟩ := h
  rw [Vals.ref1 r]
  obtain ⟨od, J⟩ := inst_at I ha
  obtain ⟨mm, fr⟩ := I.fr
  refine PySem.W.len_K fr I.ok.mod.kin J M.at_ M.fn ?_
  refine wpAny_mono (Runs1.of ok room hb pass0 pins σ H s _ [.ref a] [.ref a] I (.cons rfl .nil) q) (fun u s' z => ?_) fun _ _ z => z
  obtain ⟨v, H', I', rv, n, rfl, hn, q'⟩ := z
  obtain ⟨tk, rfl⟩ := rv
  exact ⟨⟨Int.natCast_nonneg n, hn⟩, .int n, H', I'.tok _, ⟨_, rfl⟩, q'⟩
def rIxO (C : Addr) (sp : Sp) : R2 := fun x y H Q => ∃ a dx fs, x = .ref a ∧ H a = some (.ins C dx fs) ∧ sp [x, y] H Q E0
theorem pe_ixO (c : MetC X.prog X.w X.K X.mg X.base C m k ps sp) (room : Room (k + 1) X.A) (ha : PE X o ta) (hi : PE X b tb) (fn : ∀ f, Meth X.K C m f → PySem.W.fnIn X.K f = true) (hm : m = "__getitem__" := by rfl)
    (hsl : ∀ (x : Addr) (i : Value), subscripted b true (.ref x) i = runValue (.builtin "lifetime.subscript" ⟨[.ref x, i], []⟩) := by intro _ _; with_unfolding_all rfl) : PE X (.Subscript o b pos) (tOp (rIxO C sp) ta tb) := by
  subst hm
  obtain ⟨f, fd, ok, M, hb⟩ := c.ex
  refine ⟨fun pins s σ H Q I h => ?_⟩
  refine Subscript_ (binT ha hi I h fun v u s2 x y H2 I2 rx ry q => ?_)
  obtain ⟨a, dx, fs, rfl, hx, q⟩ := q
  cases rx
  obtain ⟨od, J⟩ := inst_at I2 hx
  obtain ⟨mm, fr⟩ := I2.fr
  exact PySem.W.sub_K fr I2.ok.mod.kin J M.at_ (fn f M) M.fn (Runs1.of ok room hb pass0 pins σ H2 s2 _ [.ref a, u] [.ref a, y] I2 (.cons rfl (.cons ry .nil)) q) (hsl a u)
/-- x op i, i an int -/
structure OwnI (K : PySem.W.Frag) (C : Addr) (op : Operator) : Prop where
  first : PySem.W.selfFirst K C = true
  rev : ∃ rc, PySem.W.findIn K (.ref C) (PySem.dunderR op.info.2) = some rc ∧ (rc = none ∨ ∃ g : Addr, rc = some (.ref g))
  i1 : ∃ fo, PySem.W.findIn K (.type "int") (PySem.dunder op.info.2) = some fo
  i2 : ∃ ro, PySem.W.findIn K (.type "int") (PySem.dunderR op.info.2) = some ro
  sub : PySem.W.subIn K (.type "int") (.ref C) = some false
def rOwnI (C : Addr) (sp : Sp) : R2 := fun x y H Q => ∃ a dx fs, ∃ i : Int, x = .ref a ∧ y = .int i ∧ H a = some (.ins C dx fs) ∧ sp [x, y] H Q E0
theorem op_ownI {op : Operator} (c : MetC X.prog X.w X.K X.mg X.base C m k ps sp) (room : Room k X.A) (O : OwnI X.K C op) (name : PySem.dunder op.info.2 = m := by rfl) : OpR X (binaryOp op) (rOwnI C sp) := by
  obtain ⟨f, fd, ok, M, hb⟩ := c.ex
  intro pins s σ H x y u v Q I rx ry h
  obtain ⟨a, dx, fs, i, rfl, rfl, ha, q⟩ := h
  cases rx
  obtain ⟨tk, rfl⟩ := ry
  obtain ⟨od, J⟩ := inst_at I ha
  obtain ⟨mm, fr⟩ := I.fr
  obtain ⟨first, ⟨rc, r1, r2⟩, ⟨fo, i1⟩, ⟨ro, i2⟩, sub⟩ := O
  refine PySem.W.ksp_binT fr I.ok.mod.kin J (T := "int") rfl first (name ▸ M.at_) M.fn r1 r2 i1 i2 sub ?_
  exact wpAny_mono (Runs.of ok room hb pass0 pins σ H s Q [.ref a, .int i tk] [.ref a, .int i] I (.cons rfl (.cons ⟨tk, rfl⟩ .nil)) q) (fun _ _ z => ep_back z) fun _ _ z => z
/-- a classmethod by its promise -/
structure CmtC (P : Program) (w : World) (K : PySem.W.Frag) (mg : Str → Option Value) (base : Heap) (C : Addr) (m : Str) (k : Nat) (ps : List Str) (sp : Sp) : Prop where
  ex : ∃ f fd mc p, FnOk P w K mg base CX0 k f fd ps sp ∧ ClX.CRead K C mc ∧ ClX.CMet K C mc m p f ∧ Binds K fd ps []
theorem FnR.ofC {P : Program} {w : World} {K : PySem.W.Frag} {mg : Str → Option Value} {base : Heap} {k : Nat} {f : Addr} {fd : FuncData} {ps : List Str} {sp : Sp} (ok : FnOk P w K mg base CX0 k f fd ps sp) (hb : Binds K fd ps []) : FnR P w K mg base CX0 k f sp := by
  intro A outer s H us vs Q E hr e0 r h
  have there : K.In s.heap := e0.mod.kin.keeps (fun b o e => (e0.bs b o e).1)
  have len : (us ++ []).length = ps.length := by rw [List.append_nil, ← r.length]; exact ok.len _ _ _ _ h
  have hv := hb s us there len
  rw [List.append_nil] at hv
  exact ok.run A outer s H ⟨us, []⟩ us vs Q E hr e0 hv r h
theorem pe_cmethC {pl : Sem Bool} (c : CmtC X.prog X.w X.K X.mg X.base C m k ps sp) (room : Room k X.A) (ho : PE X o ta) (ha : PA X (e :: es) t)
    (hst : starEach (e :: es) X.env = (false, eval e X.env) :: starEach es X.env := by rfl) (hpl : (backTo pos (starEach es X.env)).any (·.1) = false := by rfl)
    (ht : eval (.Call (.Attribute o m apos) (e :: es) [] pos) X.env = (do
      let ov ← eval o X.env
      standAt apos.atName
      let (f, first) ← holding [ov] (getMethod ov m pl)
      callWith pos f first (backTo pos (starEach (e :: es) X.env)) (backToKw pos (keywordEach [] X.env))) := by rfl) :
    PE X (.Call (.Attribute o m apos) (e :: es) [] pos) (ClX.tCMeth C sp E0 ta t) := by
  obtain ⟨f, fd, mc, p, ok, hr, hm, hb⟩ := c.ex
  exact ClX.pe_cmeth ho hr hm (FnR.ofC ok hb) room pass0 ha hst hpl ht
end


end My
namespace My
open PySem PySem.Spec PyProof.Rows L2 TL
/-! ### == of an instance and anything; str of an instance -/
section
variable {X : Cx} {k : Nat} {f C : Addr} {ps : List Str} {sp : Sp} {E : XK}
def rOwnX (K : PySem.W.Frag) (C : Addr) (sp : Sp) (E : XK) : R2 := fun x y H Q => ∃ a dx fs t0, x = .ref a ∧ H a = some (.ins C dx fs) ∧ TyX K H y t0 ∧ PySem.W.notFirst K C t0 = true ∧ sp [x, y] H Q E
theorem op_eqX (c : MetC X.prog X.w X.K X.mg X.base C "__eq__" k ps sp) (room : Room k X.A) : OpR X (compareOp .Eq) (rOwnX X.K C sp E0) := by
  obtain ⟨f, fd, ok, M, hb⟩ := c.ex
  intro pins s σ H x y u v Q I rx ry h
  obtain ⟨a, dx, fs, t0, rfl, ha, ty, hn, q⟩ := h
  cases rx
  obtain ⟨od, J⟩ := inst_at I ha
  obtain ⟨m, fr⟩ := I.fr
  obtain ⟨Ph, Z, p, hx⟩ := kit_of I ry ty
  refine PySem.W.cmp_K (op := .Eq) room.units0 fr I.ok.mod.kin J (Z.ty _ _ I.kIn p) hn M.at_ M.fn ?_
  exact wpAny_mono (Runs.of ok room hb pass0 pins σ H s Q [.ref a, v] [.ref a, y] I (.cons rfl (.cons ry .nil)) q) (fun _ _ z => ep_back z) fun _ _ z => z
def rStrO (C : Addr) (sp : Sp) : List V → Hp → VK → Prop := fun xs H Q => ∃ a dx fs, xs = [.ref a] ∧ H a = some (.ins C dx fs) ∧ sp [.ref a] H (fun v H' => ∃ y, v = .str y ∧ Q (.str y) H') E0
theorem call_strO (c : MetC X.prog X.w X.K X.mg X.base C "__str__" k ps sp) (room : Room (k + 2) X.A) : CallR X (.type "str") (rStrO C sp) := by
  obtain ⟨f, fd, ok, M, hb⟩ := c.ex
  intro pins s σ H xs us Q I r h
  obtain ⟨a, dx, fs, rfl, ha, q⟩ := h
  rw [Vals.ref1 r]
  obtain ⟨od, J⟩ := inst_at I ha
  refine PySem.W.kso_call (by have := room.units; show X.A.units + 1 + 1 < cLine; omega) I.kIn J M.at_ M.fn ?_
  have len : [Value.ref a].length = ps.length := ok.len _ _ _ _ q
  have ran := ok.run X.A.in1.in1 X.stack s H ⟨[.ref a], []⟩ [Value.ref a] [V.ref a] _ E0 room.in1.in1 I.env0.in1.in1 (hb s [.ref a] I.kIn len) (.cons rfl .nil) q
  refine wpAny_call (codeAny_mono ran ?_)
  intro r s' h
  match r, h with
  | .error e, h => exact pass0 pins σ H s e s' I h
  | .ok (.ret u), h =>
    obtain ⟨v, H', I', rv, y, rfl, q'⟩ := I.after h
    obtain ⟨tk, rfl⟩ := rv
    exact ⟨.str y, H', I', ⟨tk, rfl⟩, q'⟩
  | .ok .next, h => exact False.elim h
  | .ok .brk, h => exact False.elim h
  | .ok .cont, h => exact False.elim h
end


end My
namespace My
open PySem PySem.Spec PyProof.Rows L2 TL
theorem nx_go {D : Ends} {σ : L2.St} {H : Hp} (h : D.nx σ H) : tNext D σ H := h
theorem asg_go2 {i : Nat} {x : V} {σ : L2.St} {H : Hp} {N : L2.St → Hp → Prop} (h : N (σ.set i (some x)) H) : gName i x σ H N := h
theorem cut_if {tt : TT} {a b : TS} {D : Ends} {σ : L2.St} {H : Hp} (PV : Bool → Hp → Prop) (h : ∀ Q : Bool → Hp → Prop, (∀ c H', PV c H' → Q c H') → tt σ H Q)
    (k : ∀ c H', PV c H' → (if c = true then a D σ H' else b D σ H')) : tIfS tt a b D σ H := h _ k
theorem cut_st {a u : TS} {D : Ends} {σ : L2.St} {H : Hp} (PV : L2.St → Hp → Prop) (h : ∀ N : L2.St → Hp → Prop, (∀ σ' H', PV σ' H' → N σ' H') → a { D with nx := N } σ H)
    (k : ∀ σ' H', PV σ' H' → u D σ' H') : tSeq a u D σ H := h _ k
theorem cut_arg {te : TE} {σ : L2.St} {H : Hp} {Q : List V → Hp → Prop} (PV : V → Hp → Prop) (h : ∀ Q : VK, (∀ v H', PV v H' → Q v H') → te σ H Q) (k : ∀ v H', PV v H' → Q [v] H') : tCons te tNil σ H Q := h _ k


end My
namespace My
open PySem PySem.Spec PyProof.Rows L2 TL
def topS (i : Nat) : Stmt := PySem.Challenge.pw_fromparts_k18_nodes_judged.main.body.getD i (.Pass ⟨0, 0, 0, 0⟩)
abbrev s__wall : Stmt := topS 0
theorem sc__wall : FnScope ["k"] ["k"] (defScope s__wall) := ⟨rfl, rfl, rfl, by decide +kernel, rfl, by decide +kernel, by decide +kernel⟩
abbrev s_is_integer : Stmt := topS 5
theorem sc_is_integer : FnScope ["value"] ["value"] (defScope s_is_integer) := ⟨rfl, rfl, rfl, by decide +kernel, rfl, by decide +kernel, by decide +kernel⟩
abbrev s_is_word : Stmt := topS 6
theorem sc_is_word : FnScope ["value", "letter"] ["value"] (defScope s_is_word) := ⟨rfl, rfl, rfl, by decide +kernel, rfl, by decide +kernel, by decide +kernel⟩
abbrev s_is_variable : Stmt := topS 7
theorem sc_is_variable : FnScope ["value", "level", "digit"] ["value"] (defScope s_is_variable) := ⟨rfl, rfl, rfl, by decide +kernel, rfl, by decide +kernel, by decide +kernel⟩
abbrev s__kept : Stmt := topS 9
theorem sc__kept : FnScope ["value", "one", "name"] ["value"] (defScope s__kept) := ⟨rfl, rfl, rfl, by decide +kernel, rfl, by decide +kernel, by decide +kernel⟩
abbrev s_ParseError___init__ : Stmt := inClass (topS 12) 0
theorem sc_ParseError___init__ : FnScope ["self", "line"] ["self", "line"] (defScope s_ParseError___init__) := ⟨rfl, rfl, rfl, by decide +kernel, rfl, by decide +kernel, by decide +kernel⟩
abbrev s_InvalidNumber___init__ : Stmt := inClass (topS 13) 0
theorem sc_InvalidNumber___init__ : FnScope ["self", "number"] ["self", "number"] (defScope s_InvalidNumber___init__) := ⟨rfl, rfl, rfl, by decide +kernel, rfl, by decide +kernel, by decide +kernel⟩
abbrev s_are_nodes : Stmt := topS 22
theorem sc_are_nodes : FnScope ["nodes", "bound", "due", "binders", "head", "many", "inner", "node"] ["nodes", "bound"] (defScope s_are_nodes) := ⟨rfl, rfl, rfl, by decide +kernel, rfl, by decide +kernel, by decide +kernel⟩
abbrev s__is_node : Stmt := topS 23
theorem sc__is_node : FnScope ["value"] ["value"] (defScope s__is_node) := ⟨rfl, rfl, rfl, by decide +kernel, rfl, by decide +kernel, by decide +kernel⟩
abbrev s__is_count : Stmt := topS 24
theorem sc__is_count : FnScope ["value"] ["value"] (defScope s__is_count) := ⟨rfl, rfl, rfl, by decide +kernel, rfl, by decide +kernel, by decide +kernel⟩
abbrev s_gaps_of : Stmt := topS 25
theorem sc_gaps_of : FnScope ["nodes", "at", "node"] ["nodes"] (defScope s_gaps_of) := ⟨rfl, rfl, rfl, by decide +kernel, rfl, by decide +kernel, by decide +kernel⟩
abbrev s_level_of : Stmt := topS 26
theorem sc_level_of : FnScope ["variable"] ["variable"] (defScope s_level_of) := ⟨rfl, rfl, rfl, by decide +kernel, rfl, by decide +kernel, by decide +kernel⟩
abbrev s_end_of : Stmt := topS 27
theorem sc_end_of : FnScope ["nodes", "place", "due"] ["nodes", "place"] (defScope s_end_of) := ⟨rfl, rfl, rfl, by decide +kernel, rfl, by decide +kernel, by decide +kernel⟩
abbrev s_places_above : Stmt := topS 28
theorem sc_places_above : FnScope ["nodes", "places", "due", "at", "node"] ["nodes"] (defScope s_places_above) := ⟨rfl, rfl, rfl, by decide +kernel, rfl, by decide +kernel, by decide +kernel⟩
abbrev s_bounds_of : Stmt := topS 29
theorem sc_bounds_of : FnScope ["nodes", "bounds", "due", "binders", "_", "many"] ["nodes"] (defScope s_bounds_of) := ⟨rfl, rfl, rfl, by decide +kernel, rfl, by decide +kernel, by decide +kernel⟩
abbrev s_text_of_nodes : Stmt := topS 30
theorem sc_text_of_nodes : FnScope ["nodes", "bounds", "texts", "at", "binders", "head", "many", "text", "levels", "level"] ["nodes"] (defScope s_text_of_nodes) := ⟨rfl, rfl, rfl, by decide +kernel, rfl, by decide +kernel, by decide +kernel⟩
abbrev s_nodes_with_text : Stmt := topS 31
theorem sc_nodes_with_text : FnScope ["text", "nodes"] ["text"] (defScope s_nodes_with_text) := ⟨rfl, rfl, rfl, by decide +kernel, rfl, by decide +kernel, by decide +kernel⟩
abbrev s__nodes_of_text : Stmt := topS 32
theorem sc__nodes_of_text : FnScope ["text", "mark", "tokens", "nodes", "begun", "binders", "head", "many"] ["text"] (defScope s__nodes_of_text) := ⟨rfl, rfl, rfl, by decide +kernel, rfl, by decide +kernel, by decide +kernel⟩
abbrev s__begin_node : Stmt := topS 33
theorem sc__begin_node : FnScope ["tokens", "nodes", "binders"] ["tokens", "nodes"] (defScope s__begin_node) := ⟨rfl, rfl, rfl, by decide +kernel, rfl, by decide +kernel, by decide +kernel⟩
abbrev s__read_binders : Stmt := topS 34
theorem sc__read_binders : FnScope ["tokens", "many"] ["tokens"] (defScope s__read_binders) := ⟨rfl, rfl, rfl, by decide +kernel, rfl, by decide +kernel, by decide +kernel⟩
abbrev s__read_name : Stmt := topS 35
theorem sc__read_name : FnScope ["tokens"] ["tokens"] (defScope s__read_name) := ⟨rfl, rfl, rfl, by decide +kernel, rfl, by decide +kernel, by decide +kernel⟩
abbrev s_Program___init__ : Stmt := inClass (topS 38) 0
theorem sc_Program___init__ : FnScope ["self", "nodes", "_", "head"] ["self", "nodes"] (defScope s_Program___init__) := ⟨rfl, rfl, rfl, by decide +kernel, rfl, by decide +kernel, by decide +kernel⟩
abbrev s_Program_read : Stmt := inClass (topS 38) 1
theorem sc_Program_read : FnScope ["cls", "text"] ["cls", "text"] (defScope s_Program_read) := ⟨rfl, rfl, rfl, by decide +kernel, rfl, by decide +kernel, by decide +kernel⟩
abbrev s_Program_nodes : Stmt := inClass (topS 38) 2
theorem sc_Program_nodes : FnScope ["self"] ["self"] (defScope s_Program_nodes) := ⟨rfl, rfl, rfl, by decide +kernel, rfl, by decide +kernel, by decide +kernel⟩
abbrev s_Program_text : Stmt := inClass (topS 38) 3
theorem sc_Program_text : FnScope ["self"] ["self"] (defScope s_Program_text) := ⟨rfl, rfl, rfl, by decide +kernel, rfl, by decide +kernel, by decide +kernel⟩
abbrev s_Program_size : Stmt := inClass (topS 38) 4
theorem sc_Program_size : FnScope ["self"] ["self"] (defScope s_Program_size) := ⟨rfl, rfl, rfl, by decide +kernel, rfl, by decide +kernel, by decide +kernel⟩
abbrev s_Program_parts : Stmt := inClass (topS 38) 5
theorem sc_Program_parts : FnScope ["self"] ["self"] (defScope s_Program_parts) := ⟨rfl, rfl, rfl, by decide +kernel, rfl, by decide +kernel, by decide +kernel⟩
abbrev s_Program_counts : Stmt := inClass (topS 38) 6
theorem sc_Program_counts : FnScope ["self"] ["self"] (defScope s_Program_counts) := ⟨rfl, rfl, rfl, by decide +kernel, rfl, by decide +kernel, by decide +kernel⟩
abbrev s_Program_arguments : Stmt := inClass (topS 38) 7
theorem sc_Program_arguments : FnScope ["self", "place", "at", "above"] ["self", "place"] (defScope s_Program_arguments) := ⟨rfl, rfl, rfl, by decide +kernel, rfl, by decide +kernel, by decide +kernel⟩
abbrev s_Program_bound : Stmt := inClass (topS 38) 8
theorem sc_Program_bound : FnScope ["self", "place", "at"] ["self", "place"] (defScope s_Program_bound) := ⟨rfl, rfl, rfl, by decide +kernel, rfl, by decide +kernel, by decide +kernel⟩
abbrev s_Program_way_to : Stmt := inClass (topS 38) 9
theorem sc_Program_way_to : FnScope ["self", "place", "way"] ["self", "place"] (defScope s_Program_way_to) := ⟨rfl, rfl, rfl, by decide +kernel, rfl, by decide +kernel, by decide +kernel⟩
abbrev s_Program_end : Stmt := inClass (topS 38) 10
theorem sc_Program_end : FnScope ["self", "place"] ["self", "place"] (defScope s_Program_end) := ⟨rfl, rfl, rfl, by decide +kernel, rfl, by decide +kernel, by decide +kernel⟩
abbrev s_Program_renamed : Stmt := inClass (topS 38) 11
theorem sc_Program_renamed : FnScope ["self", "names"] ["self", "names"] (defScope s_Program_renamed) := ⟨rfl, rfl, rfl, by decide +kernel, rfl, by decide +kernel, by decide +kernel⟩
abbrev s_Program_comes_ahead : Stmt := inClass (topS 38) 12
theorem sc_Program_comes_ahead : FnScope ["self", "other"] ["self", "other"] (defScope s_Program_comes_ahead) := ⟨rfl, rfl, rfl, by decide +kernel, rfl, by decide +kernel, by decide +kernel⟩
abbrev s_Program__check_place : Stmt := inClass (topS 38) 13
theorem sc_Program__check_place : FnScope ["self", "place"] ["self", "place"] (defScope s_Program__check_place) := ⟨rfl, rfl, rfl, by decide +kernel, rfl, by decide +kernel, by decide +kernel⟩
abbrev s_Program___getitem__ : Stmt := inClass (topS 38) 14
theorem sc_Program___getitem__ : FnScope ["self", "at"] ["self", "at"] (defScope s_Program___getitem__) := ⟨rfl, rfl, rfl, by decide +kernel, rfl, by decide +kernel, by decide +kernel⟩
abbrev s_Program___contains__ : Stmt := inClass (topS 38) 15
theorem sc_Program___contains__ : FnScope ["self", "x"] ["self", "x"] (defScope s_Program___contains__) := ⟨rfl, rfl, rfl, by decide +kernel, rfl, by decide +kernel, by decide +kernel⟩
abbrev s_Program___len__ : Stmt := inClass (topS 38) 16
theorem sc_Program___len__ : FnScope ["self"] ["self"] (defScope s_Program___len__) := ⟨rfl, rfl, rfl, by decide +kernel, rfl, by decide +kernel, by decide +kernel⟩
abbrev s_Program___iter__ : Stmt := inClass (topS 38) 17
theorem sc_Program___iter__ : FnScope ["self"] ["self"] (defScope s_Program___iter__) := ⟨rfl, rfl, rfl, by decide +kernel, rfl, by decide +kernel, by decide +kernel⟩
abbrev s_Program___eq__ : Stmt := inClass (topS 38) 18
theorem sc_Program___eq__ : FnScope ["self", "other"] ["self", "other"] (defScope s_Program___eq__) := ⟨rfl, rfl, rfl, by decide +kernel, rfl, by decide +kernel, by decide +kernel⟩
abbrev s_Program___str__ : Stmt := inClass (topS 38) 19
theorem sc_Program___str__ : FnScope ["self"] ["self"] (defScope s_Program___str__) := ⟨rfl, rfl, rfl, by decide +kernel, rfl, by decide +kernel, by decide +kernel⟩
abbrev s__law_dice : Stmt := topS 40
theorem sc__law_dice : FnScope ["_law_script", "_law_spot", "_law_cell", "_law_great", "_law_blend"] ["_law_script", "_law_spot"] (defScope s__law_dice) := ⟨rfl, rfl, rfl, by decide +kernel, rfl, by decide +kernel, by decide +kernel⟩
abbrev s__law_roll : Stmt := topS 41
theorem sc__law_roll : FnScope ["_law_dice_here", "_law_total", "_law_found", "_law_one", "_law_two"] ["_law_dice_here", "_law_total"] (defScope s__law_roll) := ⟨rfl, rfl, rfl, by decide +kernel, rfl, by decide +kernel, by decide +kernel⟩
abbrev s__law_pick : Stmt := topS 42
theorem sc__law_pick : FnScope ["_law_dice_here", "_law_items"] ["_law_dice_here", "_law_items"] (defScope s__law_pick) := ⟨rfl, rfl, rfl, by decide +kernel, rfl, by decide +kernel, by decide +kernel⟩
abbrev s__law_program_nodes : Stmt := topS 43
theorem sc__law_program_nodes : FnScope ["_law_program", "_law_found", "_law_one"] ["_law_program"] (defScope s__law_program_nodes) := ⟨rfl, rfl, rfl, by decide +kernel, rfl, by decide +kernel, by decide +kernel⟩
abbrev s__law_program_parts : Stmt := topS 44
theorem sc__law_program_parts : FnScope ["_law_program", "_law_found", "_law_one"] ["_law_program"] (defScope s__law_program_parts) := ⟨rfl, rfl, rfl, by decide +kernel, rfl, by decide +kernel, by decide +kernel⟩
abbrev s__law_drawn : Stmt := topS 45
theorem sc__law_drawn : FnScope ["_law_dice_here", "_law_bound", "_law_most", "_law_binders", "_law_left", "_law_args", "_law_names", "_law_head", "_law_turn", "_law_at"] ["_law_dice_here", "_law_bound", "_law_most"] (defScope s__law_drawn) := ⟨rfl, rfl, rfl, by decide +kernel, rfl, by decide +kernel, by decide +kernel⟩
abbrev s__law_is_taken : Stmt := topS 46
theorem sc__law_is_taken : FnScope ["_law_value"] ["_law_value"] (defScope s__law_is_taken) := ⟨rfl, rfl, rfl, by decide +kernel, rfl, by decide +kernel, by decide +kernel⟩
abbrev s__law_is_fine : Stmt := topS 47
theorem sc__law_is_fine : FnScope ["_law_value", "_law_open_rows", "_law_node", "_law_bound", "_law_left", "_law_inner", "_law_at"] ["_law_value"] (defScope s__law_is_fine) := ⟨rfl, rfl, rfl, by decide +kernel, rfl, by decide +kernel, by decide +kernel⟩
abbrev s__law_bent : Stmt := topS 48
theorem sc__law_bent : FnScope ["_law_dice_here", "_law_nodes", "_law_found", "_law_at", "_law_way", "_law_binders", "_law_head", "_law_size", "_law_odd", "_law_some"] ["_law_dice_here", "_law_nodes"] (defScope s__law_bent) := ⟨rfl, rfl, rfl, by decide +kernel, rfl, by decide +kernel, by decide +kernel⟩
abbrev s__law_right : Stmt := topS 49
theorem sc__law_right : FnScope ["_law_dice_here", "_law_nodes", "_law_turn", "_law_near", "_law_odd"] ["_law_dice_here"] (defScope s__law_right) := ⟨rfl, rfl, rfl, by decide +kernel, rfl, by decide +kernel, by decide +kernel⟩
abbrev s_law : Stmt := topS 50
theorem sc_law : FnScope ["_law_script", "_law_spot", "_law_chain", "_law_wide", "_law_told"] ["_law_script"] (defScope s_law) := ⟨rfl, rfl, rfl, by decide +kernel, rfl, by decide +kernel, by decide +kernel⟩
structure XProgram (K : PySem.W.Frag) (C : Addr) : Prop where
  n_nodes : PySem.W.findIn K (.ref C) "_nodes" = some none
  n_text : PySem.W.findIn K (.ref C) "_text" = some none
  n_above : PySem.W.findIn K (.ref C) "_above" = some none
  n_parts : PySem.W.findIn K (.ref C) "_parts" = some none
  first : PySem.W.selfFirst K C = true
  nfirst : PySem.W.notFirst K C (.ref C) = true
  odd_NoneType : PySem.W.kitOne K (.type "NoneType") (.ref C) = some false
  nf_NoneType : PySem.W.notFirst K C (.type "NoneType") = true
  odd_int : PySem.W.kitOne K (.type "int") (.ref C) = some false
  nf_int : PySem.W.notFirst K C (.type "int") = true
  odd_str : PySem.W.kitOne K (.type "str") (.ref C) = some false
  nf_str : PySem.W.notFirst K C (.type "str") = true
  odd_tuple : PySem.W.kitOne K (.type "tuple") (.ref C) = some false
  nf_tuple : PySem.W.notFirst K C (.type "tuple") = true
  odd_list : PySem.W.kitOne K (.type "list") (.ref C) = some false
  nf_list : PySem.W.notFirst K C (.type "list") = true
  odd_dict : PySem.W.kitOne K (.type "dict") (.ref C) = some false
  nf_dict : PySem.W.notFirst K C (.type "dict") = true
  ne : PySem.W.findIn K (.ref C) "__ne__" = some (some (.builtin "object.__ne__"))
  under : PySem.W.subIn K (.ref C) (.type "object") = some true
  cl1 : PySem.W.findIn K (.ref C) "__class__" = some (some (.builtin "object.__class__"))
  cl2 : PySem.W.specialIn K (.builtin "object.__class__") "__get__" = some (some (.builtin "getset_descriptor.__get__"))
  cl3 : PySem.W.takesIn K (.builtin "object.__class__") = some true
  cl4 : PySem.W.mroIn K C (.type "object") = some true
structure Txt (K : PySem.W.Frag) (mg : Str → Option Value) (C_Program : Addr) : Prop where
  c_Program : mg "Program" = some (.ref C_Program)
  k_Program : Cls K C_Program
  x_Program : XProgram K C_Program
  b_RuntimeError : mg "RuntimeError" = none
  b_ValueError : mg "ValueError" = none
  b_abs : mg "abs" = none
  b_all : mg "all" = none
  b_bool : mg "bool" = none
  b_classmethod : mg "classmethod" = none
  b_dict : mg "dict" = none
  b_enumerate : mg "enumerate" = none
  b_int : mg "int" = none
  b_isinstance : mg "isinstance" = none
  b_iter : mg "iter" = none
  b_len : mg "len" = none
  b_list : mg "list" = none
  b_max : mg "max" = none
  b_min : mg "min" = none
  b_property : mg "property" = none
  b_range : mg "range" = none
  b_set : mg "set" = none
  b_sorted : mg "sorted" = none
  b_str : mg "str" = none
  b_sum : mg "sum" = none
  b_tuple : mg "tuple" = none
  g_MAX_LETTERS : ∃ u, mg "MAX_LETTERS" = some u ∧ RelV (.int 8) u
  g_GAP : ∃ u, mg "GAP" = some u ∧ RelV (.str "?") u
  g_VARIABLE : ∃ u, mg "VARIABLE" = some u ∧ RelV (.str "x") u
  g_MAX_BOUND : ∃ u, mg "MAX_BOUND" = some u ∧ RelV (.int 100) u
  g__MAX_COUNT : ∃ u, mg "_MAX_COUNT" = some u ∧ RelV (.int 15) u
  g__BINDER : ∃ u, mg "_BINDER" = some u ∧ RelV (.str "\\") u
  g__DOT : ∃ u, mg "_DOT" = some u ∧ RelV (.str ".") u
  g__OPEN : ∃ u, mg "_OPEN" = some u ∧ RelV (.str "(") u
  g__CLOSE : ∃ u, mg "_CLOSE" = some u ∧ RelV (.str ")") u
  g__END : ∃ u, mg "_END" = some u ∧ RelV (.str "") u
  g_MAX_NODES : ∃ u, mg "MAX_NODES" = some u ∧ RelV (.int 40) u
set_option pp.maxSteps 3000
set_option pp.deepTerms false
def isLow (c : Nat) : Bool := decide (97 ≤ c) && decide (c ≤ 122)
def isW : V → Bool
  | .str x => (decide (1 ≤ x.length) && decide (x.length ≤ 8)) && x.cps.toList.all isLow
  | _ => false
/-- a value that the law makes -/
def ValW (K : PySem.W.Frag) (H : Hp) (v : V) : Prop := (∃ x : Str, v = .str x ∧ x.length ≤ 1000 ∧ ∀ c ∈ x.cps.toList, c < 128) ∨
  (∃ t, TyX K H v t ∧ PySem.W.kitOne K t (.type "str") = some false ∧ isW v = false)
def sp_is_word (K : PySem.W.Frag) : Sp := fun vs H Q _ => ∃ v, vs = [v] ∧ ValW K H v ∧ ∀ H', Same H H' → Q (.bl (isW v)) H'
theorem isW_str (x : Str) : isW (.str x) = ((decide (1 ≤ x.length) && decide (x.length ≤ 8)) && x.cps.toList.all isLow) := rfl
section
variable {P : Program} {w : World} {K : PySem.W.Frag} {mg : Str → Option Value} {base : Heap}
theorem ok_is_word (T : Txt K mg C_Program) {f : Addr} {fd : FuncData} (F : Fun K "is_word" "is_word" s_is_word f fd) : FnOk P w K mg base CX0 1 f fd ["value"] (sp_is_word K) := by
  have nd := sc_is_word.nd
  refine F.ok sc_is_word (fun vs H Q E h => ?_) (fun cdv A outer s H vs Q E hr h => ?_)
  · obtain ⟨v, rfl, _⟩ := h
    rfl
  · obtain ⟨v, rfl, hv, q⟩ := h
    refine ⟨_, (pss_cons (ps_if (PW.pt (pw_or (pt_not (pt_val (pe_callB call_isi (by rfl) T.b_isinstance (by decide +kernel) (pa_cons (pv 0) (pa_cons (pe_bltn (v := .ty "str") (u := .type "str") (by rfl) T.b_str (by decide +kernel) rfl) pa_nil))))) (pw_or1 (pt_not (pt_chain op_le op_le pe_int (pe_callB call_len (by rfl) T.b_len (by decide +kernel) (pa_cons (pv 0) pa_nil)) (pe_globE rfl T.g_MAX_LETTERS)))))) (pss_one (ps_ret pe_bl)) pss_nil)
      (pss_one (ps_ret (pe_callB (cr_all rfl) (by rfl) T.b_all (by decide +kernel) (pa_cons (pe_lcD (own := [("letter", 1)]) (by rfl) nd (pi_str (pv 0)) (blkOk_by (own := [("letter", 1)]) (N := ["value", "letter"]) (sc := (defScope s_is_word)) (by decide +kernel)) (fun _ _ _ _ _ => pg_name (i := 1) nd rfl (Or.inl rfl)) (fun _ _ _ _ _ => pts_nil) (fun _ _ _ _ _ => (pe_chain op_le_str op_le_str pe_str (pv 1) pe_str))) pa_nil))))), ?_⟩
    rcases hv with ⟨x, rfl, hx, ha⟩ | ⟨t, ht, hk, hw⟩
    · have hx1 : x.length ≤ sizeLine := lt_line (by omega)
      have hxl : x.cps.toList.length = x.length := (len_tl x).symm
      refine ⟨.str x, rfl, .str x, .ty "str", .type "str", .type "str", true, rfl, .ty _, .base (.str x), kit_ty (by decide +kernel), true, rfl, ?_⟩
      refine iteF ?_
      refine ⟨.str x, rfl, .str x, x.length, rfl, ⟨hx1, rfl⟩, 1, (x.length : Int), rfl, rfl, _, rfl, ?_⟩
      refine ite2 (fun h1 => ?_) (fun h1 => ?_)
      · have h1' : 1 ≤ x.length := by have := of_decide_eq_true h1; omega
        refine ⟨(x.length : Int), 8, rfl, rfl, _, rfl, ?_⟩
        refine ite2 (fun h2 => ?_) (fun h2 => ?_)
        · have h2' : ¬ x.length ≤ 8 := fun z => by
            rw [decide_eq_true (show (x.length : Int) ≤ 8 by omega)] at h2
            cases h2
          have e : isW (.str x) = false := by rw [isW_str, decide_eq_false h2', Bool.and_false, Bool.false_and]
          have z := q H (Same.refl H)
          rw [e] at z
          exact z
        · have h2' : x.length ≤ 8 := by
            by_cases z : (x.length : Int) ≤ 8
            · omega
            · rw [decide_eq_false z] at h2
              exact absurd rfl h2
          refine ⟨.str x, rfl, x, rfl, fun D hD => lc_txt (fun i H' => H' D = some (.lst (((x.cps.toList.take i).map isLow).map V.bl)) ∧ Same H H') ?_ (fun i c H1 hc hP => ?_) (fun H1 hP => ?_)⟩
          · exact ⟨upd_same, (Same.refl H).mut hD⟩
          · obtain ⟨hD1, s1⟩ := hP
            refine ⟨rfl, tyes ?_⟩
            have fin : ∀ b, b = isLow c → ∃ acc, H1 D = some (.lst acc) ∧ acc.length < sizeLine ∧ ((upd H1 D (.lst (acc ++ [.bl b]))) D = some (.lst (((x.cps.toList.take (i + 1)).map isLow).map V.bl)) ∧ Same H (upd H1 D (.lst (acc ++ [.bl b])))) := by
              intro b e
              refine ⟨_, hD1, lt_line' ?_, ?_, s1.mut hD⟩
              · have := lt_of_get hc
                rw [List.length_map, List.length_map, List.length_take]
                omega
              · rw [upd_same, e, take_next hc, List.map_append, List.map_append]
                rfl
            refine ⟨.str ⟨#[c]⟩, rfl, "a", ⟨#[c]⟩, rfl, rfl, _, rfl, ?_⟩
            have ea : (decide ((⟨#[c]⟩ : Str).cps.toList < ("a" : Str).cps.toList)) = decide (c < 97) := lex1 c 97
            have ez : (decide (("z" : Str).cps.toList < (⟨#[c]⟩ : Str).cps.toList)) = decide (122 < c) := lex1 122 c
            refine ite2 (fun h3 => ?_) (fun h3 => ?_)
            · refine ⟨⟨#[c]⟩, "z", rfl, rfl, fin _ ?_⟩
              rw [ea] at h3
              rw [ez]
              unfold isLow
              by_cases z : c < 97
              · rw [decide_eq_true z] at h3
                cases h3
              · rw [decide_eq_true (show 97 ≤ c by omega), Bool.true_and]
                by_cases z2 : 122 < c
                · rw [decide_eq_true z2, decide_eq_false (by omega)]
                  rfl
                · rw [decide_eq_false z2, decide_eq_true (by omega)]
                  rfl
            · refine fin _ ?_
              rw [ea] at h3
              unfold isLow
              by_cases z : c < 97
              · rw [decide_eq_false (show ¬ 97 ≤ c by omega), Bool.false_and]
              · rw [decide_eq_false z] at h3
                exact absurd rfl h3
          · obtain ⟨hD1, s1⟩ := hP
            rw [List.take_length] at hD1
            refine ⟨D, _, rfl, SqL.of hD1, ?_⟩
            have e : isW (.str x) = (x.cps.toList.map isLow).all id := by
              rw [isW_str, decide_eq_true h1', decide_eq_true h2', List.all_map]
              rfl
            have z := q H1 s1
            rw [e] at z
            exact z
      · have h1' : ¬ 1 ≤ x.length := fun z => h1 (decide_eq_true (by omega))
        refine ⟨false, rfl, iteT ?_⟩
        have e : isW (.str x) = false := by rw [isW_str, decide_eq_false h1', Bool.false_and, Bool.false_and]
        have z := q H (Same.refl H)
        rw [e] at z
        exact z
    · refine ⟨v, rfl, v, .ty "str", t, .type "str", false, rfl, .ty _, ht, hk, false, rfl, ?_⟩
      refine iteT ?_
      refine iteT ?_
      have z := q H (Same.refl H)
      rw [hw] at z
      exact z
end

/-! ### which are integers, which are texts of variables -/
def isI : V → Bool
  | .int i => decide ((if i < 0 then -i else i) < 10 ^ 60)
  | _ => false
def dig (c : Nat) : Bool := decide (48 ≤ c) && decide (c ≤ 57)
def isL : List Nat → Bool
  | [120, a] => dig a
  | [120, a, b] => (dig a && dig b) && !decide (a = 48)
  | _ => false
def isV : V → Bool
  | .str x => isL x.cps.toList
  | _ => false
def ValK (K : PySem.W.Frag) (H : Hp) (v : V) : Prop := (∃ i, v = .int i) ∨ (∃ b, v = .bl b) ∨ (∃ x : Str, v = .str x ∧ x.length ≤ 1000) ∨
  (∃ t, TyX K H v t ∧ PySem.W.kitOne K t (.type "int") = some false ∧ PySem.W.kitOne K t (.type "str") = some false ∧ isI v = false ∧ isV v = false)
def sp_is_integer (K : PySem.W.Frag) : Sp := fun vs H Q _ => ∃ v, vs = [v] ∧ ValK K H v ∧ ∀ H', Same H H' → Q (.bl (isI v)) H'
def sp_is_variable (K : PySem.W.Frag) : Sp := fun vs H Q _ => ∃ v, vs = [v] ∧ ValK K H v ∧ ∀ H', Same H H' → Q (.bl (isV v)) H'
theorem two_digits : ∀ a b : Fin 10, PySem.intText? ⟨#[48 + a.val, 48 + b.val]⟩ = some ((10 * a.val + b.val : Nat) : Int) ∧
    (decide ((V.str (toString ((10 * a.val + b.val : Nat) : Int))) = V.str ⟨#[48 + a.val, 48 + b.val]⟩) = !decide (48 + a.val = 48)) := by decide +kernel
theorem one_digit : ∀ a : Fin 10, PySem.intText? ⟨#[48 + a.val]⟩ = some ((a.val : Nat) : Int) ∧
    (decide ((V.str (toString ((a.val : Nat) : Int))) = V.str ⟨#[48 + a.val]⟩) = true) := by decide +kernel
theorem dig_fin {c : Nat} (h : dig c = true) : ∃ a : Fin 10, c = 48 + a.val := by
  obtain ⟨h1, h2⟩ := Bool.and_eq_true_iff.mp h
  have h1 := of_decide_eq_true h1
  have h2 := of_decide_eq_true h2
  exact ⟨⟨c - 48, by omega⟩, by show c = 48 + (c - 48); omega⟩
/-- what is read of one or two digits -/
theorem digits_read {r : List Nat} (h : r.all dig = true) (hl : r.length = 1 ∨ r.length = 2) :
    ∃ n : Nat, n < 100 ∧ PySem.intText? ⟨r.toArray⟩ = some (n : Int) ∧ decide ((V.str (toString (n : Int))) = V.str ⟨r.toArray⟩) = isL (120 :: r) := by
  match r, h, hl with
  | [a], h, _ =>
    have ha : dig a = true := by simpa using h
    obtain ⟨a', rfl⟩ := dig_fin ha
    obtain ⟨e1, e2⟩ := one_digit a'
    exact ⟨a'.val, by omega, e1, e2.trans ha.symm⟩
  | [a, b], h, _ =>
    obtain ⟨ha, hb⟩ : dig a = true ∧ dig b = true := by simpa using h
    obtain ⟨a', rfl⟩ := dig_fin ha
    obtain ⟨b', rfl⟩ := dig_fin hb
    obtain ⟨e1, e2⟩ := two_digits a' b'
    refine ⟨10 * a'.val + b'.val, by omega, e1, e2.trans ?_⟩
    show _ = ((dig (48 + a'.val) && dig (48 + b'.val)) && !decide (48 + a'.val = 48))
    rw [ha, hb]
    rfl
theorem isL_cases {l : List Nat} (h : isL l = true) : ∃ r, l = 120 :: r ∧ (r.length = 1 ∨ r.length = 2) ∧ r.all dig = true := by
  unfold isL at h
  split at h
  · exact ⟨_, rfl, .inl rfl, by simpa using h⟩
  · obtain ⟨h1, _⟩ := Bool.and_eq_true_iff.mp h
    exact ⟨_, rfl, .inr rfl, by simpa using h1⟩
  · cases h
theorem cut_one (z : Str) : cutS z (some 1) none = ⟨(z.cps.toList.drop 1).toArray⟩ := by
  have hl : z.length = z.cps.toList.length := len_tl z
  unfold cutS
  rw [show HT.sIx z.length 0 (some 1) = min 1 z.length from HT.sIx_nat z.length 0 1, HT.sIx_none, hl]
  cases z.cps.toList with
  | nil => rfl
  | cons c r =>
    rw [show min 1 (c :: r).length = 1 by rw [List.length_cons]; omega]
    show (⟨(List.take ((c :: r).length - 1) r).toArray⟩ : Str) = _
    rw [List.length_cons, Nat.add_sub_cancel, List.take_length]
    rfl
theorem log_small {n : Nat} (h : n < 100) : ((n : Int)).natAbs.log2 < 1920 := by
  have := PySem.Flt.log2_lt_of (k := 7) (by decide) (show ((n : Int)).natAbs < 2 ^ 7 by omega)
  omega
section
variable {P : Program} {w : World} {K : PySem.W.Frag} {mg : Str → Option Value} {base : Heap}
theorem ok_is_integer (T : Txt K mg C_Program) {f : Addr} {fd : FuncData} (F : Fun K "is_integer" "is_integer" s_is_integer f fd) : FnOk P w K mg base CX0 1 f fd ["value"] (sp_is_integer K) := by
  have nd := sc_is_integer.nd
  refine F.ok sc_is_integer (fun vs H Q E h => ?_) (fun cdv A outer s H vs Q E hr h => ?_)
  · obtain ⟨v, rfl, _⟩ := h
    rfl
  · obtain ⟨v, rfl, hv, q⟩ := h
    refine ⟨_, (pss_one (ps_ret (pe_and (pe_callB call_isi (by rfl) T.b_isinstance (by decide +kernel) (pa_cons (pv 0) (pa_cons (pe_bltn (v := .ty "int") (u := .type "int") (by rfl) T.b_int (by decide +kernel) rfl) pa_nil))) (pe_and (pe_not (pe_callB call_isi (by rfl) T.b_isinstance (by decide +kernel) (pa_cons (pv 0) (pa_cons (pe_bltn (v := .ty "bool") (u := .type "bool") (by rfl) T.b_bool (by decide +kernel) rfl) pa_nil)))) (pe_one (pe_cmpR op_lt (pe_callB call_abs (by rfl) T.b_abs (by decide +kernel) (pa_cons (pv 0) pa_nil)) (pe_op op_powW pe_int pe_int) (nomark _))))))), ?_⟩
    have z := q H (Same.refl H)
    rcases hv with ⟨i, rfl⟩ | ⟨b, rfl⟩ | ⟨x, rfl, hx⟩ | ⟨t, ht, hk, hk2, hw, _⟩
    · refine ⟨.int i, rfl, .int i, .ty "int", .type "int", .type "int", true, rfl, .ty _, .base (.int i), kit_ty (by decide +kernel), true, rfl, iteT ?_⟩
      refine ⟨.int i, rfl, .int i, .ty "bool", .type "int", .type "bool", false, rfl, .ty _, .base (.int i), kit_ty (by decide +kernel), false, rfl, true, rfl, iteT ?_⟩
      exact ⟨.int i, rfl, i, rfl, 10, 60, rfl, rfl, ⟨by decide, by decide +kernel⟩, _, _, rfl, rfl, z⟩
    · refine ⟨.bl b, rfl, .bl b, .ty "int", .type "bool", .type "int", true, rfl, .ty _, .base (.bl b), kit_ty (by decide +kernel), true, rfl, iteT ?_⟩
      exact ⟨.bl b, rfl, .bl b, .ty "bool", .type "bool", .type "bool", true, rfl, .ty _, .base (.bl b), kit_ty (by decide +kernel), true, rfl, false, rfl, iteF z⟩
    · exact ⟨.str x, rfl, .str x, .ty "int", .type "str", .type "int", false, rfl, .ty _, .base (.str x), kit_ty (by decide +kernel), false, rfl, iteF z⟩
    · rw [hw] at z
      exact ⟨v, rfl, v, .ty "int", t, .type "int", false, rfl, .ty _, ht, hk, false, rfl, iteF z⟩
theorem ok_is_variable (T : Txt K mg C_Program) {f : Addr} {fd : FuncData} (F : Fun K "is_variable" "is_variable" s_is_variable f fd) : FnOk P w K mg base CX0 1 f fd ["value"] (sp_is_variable K) := by
  have nd := sc_is_variable.nd
  refine F.ok sc_is_variable (fun vs H Q E h => ?_) (fun cdv A outer s H vs Q E hr h => ?_)
  · obtain ⟨v, rfl, _⟩ := h
    rfl
  · obtain ⟨v, rfl, hv, q⟩ := h
    refine ⟨_, (pss_cons (ps_if (PW.pt (pw_or (pt_not (pt_val (pe_callB call_isi (by rfl) T.b_isinstance (by decide +kernel) (pa_cons (pv 0) (pa_cons (pe_bltn (v := .ty "str") (u := .type "str") (by rfl) T.b_str (by decide +kernel) rfl) pa_nil))))) (pw_or (pt_not (pt_chain op_le op_le pe_int (pe_callB call_len (by rfl) T.b_len (by decide +kernel) (pa_cons (pv 0) pa_nil)) pe_int)) (pw_or1 (pt_cmpR op_ne (pe_ix ix_str (pv 0) pe_int (fun _ _ => rfl)) (pe_globE rfl T.g_VARIABLE) (nomark _)))))) (pss_one (ps_ret pe_bl)) pss_nil)
      (pss_cons (ps_set (i := 1) nd rfl (.inl rfl) (pe_slice sl_str (pv 0) (po_some pe_int) po_none))
      (pss_one (ps_ret (pe_and (pe_callB (cr_all rfl) (by rfl) T.b_all (by decide +kernel) (pa_cons (pe_lcD (own := [("digit", 2)]) (by rfl) nd (pi_str (pv 1)) (blkOk_by (own := [("digit", 2)]) (N := ["value", "level", "digit"]) (sc := (defScope s_is_variable)) (by decide +kernel)) (fun _ _ _ _ _ => pg_name (i := 2) nd rfl (Or.inl rfl)) (fun _ _ _ _ _ => pts_nil) (fun _ _ _ _ _ => (pe_chain op_le_str op_le_str pe_str (pv 2) pe_str))) pa_nil)) (pe_one (pe_cmpR op_eq (pe_callTy call_str_int (by rfl) T.b_str (by decide +kernel) (pa_cons (pe_callTy call_int_str (by rfl) T.b_int (by decide +kernel) (pa_cons (pv 1) pa_nil)) pa_nil)) (pv 1) (nomark _)))))))), ?_⟩
    rcases hv with ⟨i, rfl⟩ | ⟨b, rfl⟩ | ⟨x, rfl, hx⟩ | ⟨t, ht, hk, hk2, _, hw⟩
    · exact ⟨.int i, rfl, .int i, .ty "str", .type "int", .type "str", false, rfl, .ty _, .base (.int i), kit_ty (by decide +kernel), false, rfl, iteT (iteT (q H (Same.refl H)))⟩
    · exact ⟨.bl b, rfl, .bl b, .ty "str", .type "bool", .type "str", false, rfl, .ty _, .base (.bl b), kit_ty (by decide +kernel), false, rfl, iteT (iteT (q H (Same.refl H)))⟩
    · have hxl : x.cps.toList.length = x.length := (len_tl x).symm
      have hx1 : x.length ≤ sizeLine := lt_line (by omega)
      have no : isL x.cps.toList = false → Q (.bl false) H := fun e => by
        have z := q H (Same.refl H)
        rw [show isV (.str x) = false from e] at z
        exact z
      have small : ¬ (2 ≤ x.length ∧ x.length ≤ 3) → isL x.cps.toList = false := fun h => by
        cases e : isL x.cps.toList with
        | false => rfl
        | true =>
          obtain ⟨r, e1, e2, _⟩ := isL_cases e
          rw [e1, List.length_cons] at hxl
          exact absurd ⟨by omega, by omega⟩ h
      refine ⟨.str x, rfl, .str x, .ty "str", .type "str", .type "str", true, rfl, .ty _, .base (.str x), kit_ty (by decide +kernel), true, rfl, ?_⟩
      refine iteF ?_
      refine ⟨.str x, rfl, .str x, x.length, rfl, ⟨hx1, rfl⟩, 2, (x.length : Int), rfl, rfl, _, rfl, ?_⟩
      refine ite2 (fun h1 => ?_) (fun h1 => ?_)
      · have h1' : 2 ≤ x.length := by have := of_decide_eq_true h1; omega
        refine ⟨(x.length : Int), 3, rfl, rfl, _, rfl, ?_⟩
        refine ite2 (fun h2 => ?_) (fun h2 => ?_)
        · have h2' : ¬ x.length ≤ 3 := fun z => by
            rw [decide_eq_true (show (x.length : Int) ≤ 3 by omega)] at h2
            cases h2
          exact iteT (no (small fun z => h2' z.2))
        · have h2' : x.length ≤ 3 := by
            by_cases z : (x.length : Int) ≤ 3
            · omega
            · rw [decide_eq_false z] at h2
              exact absurd rfl h2
          obtain ⟨c, r, el⟩ : ∃ c r, x.cps.toList = c :: r := by
            cases e : x.cps.toList with
            | nil =>
              rw [e] at hxl
              simp at hxl
              omega
            | cons c r => exact ⟨c, r, rfl⟩
          have rl : r.length = 1 ∨ r.length = 2 := by
            rw [el, List.length_cons] at hxl
            omega
          refine ⟨.str x, rfl, x, 0, c, rfl, rfl, hx1, by rw [el]; exact atI_nat (j := 0) rfl, rfl, _, rfl, ?_⟩
          refine ite2 (fun h3 => ?_) (fun h3 => ?_)
          · refine no ?_
            cases e : isL x.cps.toList with
            | false => rfl
            | true =>
              obtain ⟨r', e1, _⟩ := isL_cases e
              rw [el] at e1
              obtain ⟨rfl, _⟩ := List.cons.inj e1
              exact absurd h3 (by decide)
          · have ec : c = 120 := by
              by_cases z : c = 120
              · exact z
              · refine absurd ?_ h3
                refine (congrArg (fun b => !b) (decide_eq_false fun y => z ?_)).trans rfl
                have y2 : (⟨#[c]⟩ : Str) = ⟨#[120]⟩ := V.str.inj y
                have y3 := congrArg (fun s : Str => s.cps.toList) y2
                exact List.head_eq_of_cons_eq y3
            subst ec
            refine ⟨.str x, rfl, 1, rfl, x, rfl, hx1, ?_⟩
            rw [cut_one, el]
            have rle : r.length ≤ 2 := by omega
            refine ⟨.str ⟨r.toArray⟩, rfl, ⟨r.toArray⟩, rfl, fun D hD => lc_txt (x := ⟨r.toArray⟩) (fun i H' => H' D = some (.lst (((r.take i).map dig).map V.bl)) ∧ Same H H') ?_ (fun i c H1 hc hP => ?_) (fun H1 hP => ?_)⟩
            · exact ⟨upd_same, (Same.refl H).mut hD⟩
            · obtain ⟨hD1, s1⟩ := hP
              have hc : r[i]? = some c := hc
              refine ⟨rfl, tyes ?_⟩
              have fin : ∀ b, b = dig c → ∃ acc, H1 D = some (.lst acc) ∧ acc.length < sizeLine ∧ ((upd H1 D (.lst (acc ++ [.bl b]))) D = some (.lst (((r.take (i + 1)).map dig).map V.bl)) ∧ Same H (upd H1 D (.lst (acc ++ [.bl b])))) := by
                intro b e
                refine ⟨_, hD1, lt_line' ?_, ?_, s1.mut hD⟩
                · rw [List.length_map, List.length_map, List.length_take]
                  omega
                · rw [upd_same, e, take_next hc, List.map_append, List.map_append]
                  rfl
              refine ⟨.str ⟨#[c]⟩, rfl, "0", ⟨#[c]⟩, rfl, rfl, _, rfl, ?_⟩
              have ea : (decide ((⟨#[c]⟩ : Str).cps.toList < ("0" : Str).cps.toList)) = decide (c < 48) := lex1 c 48
              have ez : (decide (("9" : Str).cps.toList < (⟨#[c]⟩ : Str).cps.toList)) = decide (57 < c) := lex1 57 c
              refine ite2 (fun h3 => ?_) (fun h3 => ?_)
              · refine ⟨⟨#[c]⟩, "9", rfl, rfl, fin _ ?_⟩
                rw [ea] at h3
                rw [ez]
                unfold dig
                by_cases z : c < 48
                · rw [decide_eq_true z] at h3
                  cases h3
                · rw [decide_eq_true (show 48 ≤ c by omega), Bool.true_and]
                  by_cases z2 : 57 < c
                  · rw [decide_eq_true z2, decide_eq_false (by omega)]
                    rfl
                  · rw [decide_eq_false z2, decide_eq_true (by omega)]
                    rfl
              · refine fin _ ?_
                rw [ea] at h3
                unfold dig
                by_cases z : c < 48
                · rw [decide_eq_false (show ¬ 48 ≤ c by omega), Bool.false_and]
                · rw [decide_eq_false z] at h3
                  exact absurd rfl h3
            · obtain ⟨hD1, s1⟩ := hP
              have hD1 : H1 D = some (.lst ((r.map dig).map V.bl)) := by
                have hh : H1 D = some (.lst (((r.take r.length).map dig).map V.bl)) := hD1
                rw [List.take_length] at hh
                exact hh
              have ev : isV (.str x) = isL (120 :: r) := congrArg isL el
              refine ⟨D, _, rfl, SqL.of hD1, (r.map dig).all id, rfl, ?_⟩
              refine ite2 (fun h4 => ?_) (fun h4 => ?_)
              · have h4' : r.all dig = true := by
                  rw [List.all_map] at h4
                  exact h4
                obtain ⟨n, n1, n2, n3⟩ := digits_read h4' rl
                refine ⟨.str ⟨r.toArray⟩, rfl, ⟨r.toArray⟩, n, rfl, n2, by show r.length ≤ 640; omega, n, rfl, log_small n1, .str ⟨r.toArray⟩, rfl, rfl, ?_⟩
                have z := q H1 s1
                rw [ev, ← n3] at z
                exact z
              · have z := q H1 s1
                have e : isL (120 :: r) = false := by
                  cases e : isL (120 :: r) with
                  | false => rfl
                  | true =>
                    obtain ⟨r', e1, _, e3⟩ := isL_cases e
                    obtain ⟨_, rfl⟩ := List.cons.inj e1
                    rw [List.all_map] at h4
                    exact absurd e3 h4
                rw [ev, e] at z
                exact z
      · have h1' : ¬ 2 ≤ x.length := fun z => h1 (decide_eq_true (by omega))
        exact ⟨false, rfl, iteT (iteT (no (small fun z => h1' z.1)))⟩
    · have z := q H (Same.refl H)
      rw [hw] at z
      exact ⟨v, rfl, v, .ty "str", t, .type "str", false, rfl, .ty _, ht, hk2, false, rfl, iteT (iteT z)⟩
end


end My
namespace My
open PySem PySem.Spec PyProof.Rows L2 TL
set_option pp.maxSteps 3000
set_option pp.deepTerms false
/-! ### nodes: what is told of rows of them -/
abbrev N3 := Option (Int × Str × Int)
def isCnt (i : Int) : Bool := decide (0 ≤ i) && decide (i ≤ 15)
def okN : N3 → Bool
  | some (b, h, m) => (isCnt b && isCnt m) && ((isW (.str h) || isV (.str h)) || (decide (h = "?") && decide (m = 0)))
  | none => false
/-- the level of a variable -/
def levL : List Nat → Nat
  | [_, a] => a - 48
  | [_, a, b] => 10 * (a - 48) + (b - 48)
  | _ => 0
theorem lev_read {l : List Nat} (h : isL l = true) : l.length ≤ 3 ∧ levL l < 100 ∧ PySem.intText? ⟨(l.drop 1).toArray⟩ = some ((levL l : Nat) : Int) := by
  obtain ⟨r, rfl, hr, ha⟩ := isL_cases h
  match r, hr, ha with
  | [a], _, ha =>
    have ha : dig a = true := by simpa using ha
    obtain ⟨a', rfl⟩ := dig_fin ha
    obtain ⟨e1, _⟩ := one_digit a'
    have e : levL [120, 48 + a'.val] = a'.val := by show 48 + a'.val - 48 = _; omega
    rw [e]
    exact ⟨by show 2 ≤ 3; decide, by omega, e1⟩
  | [a, b], _, h =>
    obtain ⟨ha, hb⟩ : dig a = true ∧ dig b = true := by simpa using h
    obtain ⟨a', rfl⟩ := dig_fin ha
    obtain ⟨b', rfl⟩ := dig_fin hb
    obtain ⟨e1, _⟩ := two_digits a' b'
    have e : levL [120, 48 + a'.val, 48 + b'.val] = 10 * a'.val + b'.val := by show 10 * (48 + a'.val - 48) + (48 + b'.val - 48) = _; omega
    rw [e]
    exact ⟨by show 3 ≤ 3; decide, by omega, e1⟩
def lev (x : Str) : Nat := levL x.cps.toList
/-- whether rows of nodes make one tree, by how many variables are bound above those that are due -/
def runN : List Int → List (Int × Str × Int) → Bool
  | due, [] => due.isEmpty
  | [], _ :: _ => false
  | d :: ds, (b, h, m) :: r => if (decide (d + b > 100) || (isV (.str h) && decide ((lev h : Int) ≥ d + b))) = true then false else runN (List.replicate m.toNat (d + b) ++ ds) r
/-- what a row's place holds: a node of a fitting form, or something else -/
def NdV (K : PySem.W.Frag) (H : Hp) (v : V) : N3 → Prop
  | some (b, h, m) => ∃ q, v = .ref q ∧ H q = some (.tup [.int b, .str h, .int m]) ∧ h.length ≤ 100 ∧ ∀ c ∈ h.cps.toList, c < 128
  | none => (∃ t, (∀ H', Same H H' → TyX K H' v t) ∧ PySem.W.kitOne K t (.type "tuple") = some false) ∨ (∃ q xs, v = .ref q ∧ H q = some (.tup xs) ∧ xs.length ≠ 3 ∧ xs.length ≤ 10) ∨
    (∃ q x i j, v = .ref q ∧ H q = some (.tup [.str x, .int i, .int j]) ∧ x.length ≤ 1000) ∨ (∃ q b h m, v = .ref q ∧ H q = some (.tup [.bl b, .str h, .int m]))
def NdsV (K : PySem.W.Frag) (H : Hp) : List V → List N3 → Prop
  | [], [] => True
  | v :: vs, n :: ns => NdV K H v n ∧ NdsV K H vs ns
  | _, _ => False
theorem NdV.same {K : PySem.W.Frag} {H H' : Hp} (s : Same H H') {v : V} : ∀ {n : N3}, NdV K H v n → NdV K H' v n
  | some (_, _, _), ⟨q, e, h, r⟩ => ⟨q, e, s _ _ h, r⟩
  | none, .inl ⟨t, h, k⟩ => .inl ⟨t, fun H2 s2 => h H2 (s.trans s2), k⟩
  | none, .inr (.inl ⟨q, xs, e, h, r⟩) => .inr (.inl ⟨q, xs, e, s _ _ h, r⟩)
  | none, .inr (.inr (.inl ⟨q, x, i, j, e, h, r⟩)) => .inr (.inr (.inl ⟨q, x, i, j, e, s _ _ h, r⟩))
  | none, .inr (.inr (.inr ⟨q, b, h, m, e, hq⟩)) => .inr (.inr (.inr ⟨q, b, h, m, e, s _ _ hq⟩))
theorem NdsV.len {K : PySem.W.Frag} {H : Hp} : ∀ {vs : List V} {ns : List N3}, NdsV K H vs ns → vs.length = ns.length
  | [], [], _ => rfl
  | [], _ :: _, h => h.elim
  | _ :: _, [], h => h.elim
  | _ :: _, _ :: _, ⟨_, h⟩ => congrArg (· + 1) (NdsV.len h)
theorem NdsV.get {K : PySem.W.Frag} {H : Hp} : ∀ {vs : List V} {ns : List N3} {i : Nat} {v : V}, NdsV K H vs ns → vs[i]? = some v → ∃ n, ns[i]? = some n ∧ NdV K H v n
  | [], _, i, v, _, e => by cases e
  | _ :: _, [], _, _, h, _ => h.elim
  | _ :: _, n :: _, 0, _, ⟨h, _⟩, e => ⟨n, rfl, by cases e; exact h⟩
  | _ :: vs, _ :: ns, i + 1, v, ⟨_, h⟩, e => NdsV.get (vs := vs) (ns := ns) (i := i) h e
theorem NdsV.same {K : PySem.W.Frag} {H H' : Hp} (s : Same H H') : ∀ {vs : List V} {ns : List N3}, NdsV K H vs ns → NdsV K H' vs ns
  | [], [], _ => trivial
  | [], _ :: _, h => h.elim
  | _ :: _, [], h => h.elim
  | _ :: _, _ :: _, ⟨h, r⟩ => ⟨h.same s, NdsV.same s r⟩
/-- rows of nodes that fit -/
theorem all_some : ∀ {ns : List N3}, ns.all okN = true → ns = (ns.filterMap id).map some
  | [], _ => rfl
  | none :: _, h => by
    rw [List.all_cons] at h
    cases h
  | some n :: ns, h => by
    rw [List.all_cons] at h
    have r := all_some (Bool.and_eq_true_iff.mp h).2
    show some n :: ns = some n :: (ns.filterMap id).map some
    rw [← r]
def sp__is_count (K : PySem.W.Frag) : Sp := fun vs H Q _ => ∃ v, vs = [v] ∧ ((∃ i, v = .int i) ∨ (∃ b, v = .bl b) ∨ (∃ x : Str, v = .str x ∧ x.length ≤ 1000)) ∧ ∀ H', Same H H' → Q (.bl (match v with | .int i => isCnt i | _ => false)) H'
def sp__is_node (K : PySem.W.Frag) : Sp := fun vs H Q _ => ∃ v n, vs = [v] ∧ NdV K H v n ∧ ∀ H', Same H H' → Q (.bl (okN n)) H'
def sp_level_of (K : PySem.W.Frag) : Sp := fun vs H Q _ => ∃ x : Str, vs = [.str x] ∧ isV (.str x) = true ∧ ∀ H', Same H H' → Q (.int (lev x)) H'
def sp_are_nodes (K : PySem.W.Frag) : Sp := fun vs H Q _ => ∃ v, ∃ bd : Int, vs = [v, .int bd] ∧
  ((∃ t, TyX K H v t ∧ PySem.W.kitOne K t (.type "tuple") = some false ∧ ∀ H', Same H H' → Q (.bl false) H') ∨
   (∃ p xs ns, v = .ref p ∧ H p = some (.tup xs) ∧ xs.length ≤ 1000 ∧ NdsV K H xs ns ∧ ∀ H', Same H H' → Q (.bl (ns.all okN && runN [bd] (ns.filterMap id))) H'))
section
variable {P : Program} {w : World} {K : PySem.W.Frag} {mg : Str → Option Value} {base : Heap}
theorem ok__is_count (T : Txt K mg C_Program) (c_is_integer : CalN P w K mg base "is_integer" 1 ["value"] (sp_is_integer K)) {f : Addr} {fd : FuncData} (F : Fun K "_is_count" "_is_count" s__is_count f fd) : FnOk P w K mg base CX0 2 f fd ["value"] (sp__is_count K) := by
  have nd := sc__is_count.nd
  refine F.ok sc__is_count (fun vs H Q E h => ?_) (fun cdv A outer s H vs Q E hr h => ?_)
  · obtain ⟨v, rfl, _⟩ := h
    rfl
  · obtain ⟨v, rfl, hv, q⟩ := h
    refine ⟨_, (pss_one (ps_ret (pe_and (pe_callN c_is_integer (hr.mono (by first | decide | omega)) rfl (pa_cons (pv 0) pa_nil)) (pe_one (pe_chain op_le op_le pe_int (pv 0) (pe_globE rfl T.g__MAX_COUNT)))))), ?_⟩
    rcases hv with ⟨i, rfl⟩ | ⟨b, rfl⟩ | ⟨x, rfl, hx⟩
    · refine ⟨.int i, rfl, .int i, rfl, .inl ⟨i, rfl⟩, fun H1 s1 => ⟨isI (.int i), rfl, ?_⟩⟩
      cases hI : isI (.int i)
      · refine iteF ?_
        have e : isCnt i = false := by
          unfold isCnt
          cases e1 : decide (0 ≤ i) with
          | false => rfl
          | true =>
            refine decide_eq_false fun z => ?_
            have e1 := of_decide_eq_true e1
            have hI : decide ((if i < 0 then -i else i) < 10 ^ 60) = false := hI
            rw [if_neg (by omega)] at hI
            exact absurd (Int.lt_of_le_of_lt z (by decide +kernel)) (of_decide_eq_false hI)
        have z := q H1 s1
        rw [show (match V.int i with | .int i => isCnt i | _ => false) = isCnt i from rfl, e] at z
        exact z
      · refine iteT ?_
        refine ⟨.int i, rfl, 0, i, rfl, rfl, _, rfl, ?_⟩
        have z := q H1 s1
        refine ite2 (fun h => ?_) (fun h => ?_)
        · refine ⟨i, 15, rfl, rfl, ?_⟩
          rw [show (match V.int i with | .int i => isCnt i | _ => false) = (decide (0 ≤ i) && decide (i ≤ 15)) from rfl, h, Bool.true_and] at z
          exact z
        · rw [show (match V.int i with | .int i => isCnt i | _ => false) = (decide (0 ≤ i) && decide (i ≤ 15)) from rfl, Bool.eq_false_iff.mpr h, Bool.false_and] at z
          exact z
    · refine ⟨.bl b, rfl, .bl b, rfl, .inr (.inl ⟨b, rfl⟩), fun H1 s1 => ⟨false, rfl, iteF (q H1 s1)⟩⟩
    · exact ⟨.str x, rfl, .str x, rfl, .inr (.inr (.inl ⟨x, rfl, hx⟩)), fun H1 s1 => ⟨false, rfl, iteF (q H1 s1)⟩⟩
theorem ok_level_of (T : Txt K mg C_Program) {f : Addr} {fd : FuncData} (F : Fun K "level_of" "level_of" s_level_of f fd) : FnOk P w K mg base CX0 1 f fd ["variable"] (sp_level_of K) := by
  have nd := sc_level_of.nd
  refine F.ok sc_level_of (fun vs H Q E h => ?_) (fun cdv A outer s H vs Q E hr h => ?_)
  · obtain ⟨v, rfl, _⟩ := h
    rfl
  · obtain ⟨v, rfl, hv, q⟩ := h
    refine ⟨_, (pss_one (ps_ret (pe_callTy call_int_str (by rfl) T.b_int (by decide +kernel) (pa_cons (pe_slice sl_str (pv 0) (po_some pe_int) po_none) pa_nil)))), ?_⟩
    obtain ⟨e1, e2, e3⟩ := lev_read (show isL v.cps.toList = true from hv)
    have hl : v.length ≤ 3 := by rw [len_tl]; exact e1
    refine ⟨.str v, rfl, 1, rfl, v, rfl, lt_line (by omega), ?_⟩
    rw [cut_one]
    refine ⟨_, lev v, rfl, e3, ?_, q H (Same.refl H)⟩
    show (v.cps.toList.drop 1).toArray.size ≤ 640
    rw [List.size_toArray, List.length_drop]
    omega
theorem ok__is_node (T : Txt K mg C_Program) (c_is_word : CalN P w K mg base "is_word" 1 ["value"] (sp_is_word K)) (c_is_variable : CalN P w K mg base "is_variable" 1 ["value"] (sp_is_variable K)) (c__is_count : CalN P w K mg base "_is_count" 2 ["value"] (sp__is_count K)) {f : Addr} {fd : FuncData} (F : Fun K "_is_node" "_is_node" s__is_node f fd) : FnOk P w K mg base CX0 3 f fd ["value"] (sp__is_node K) := by
  have nd := sc__is_node.nd
  refine F.ok sc__is_node (fun vs H Q E h => ?_) (fun cdv A outer s H vs Q E hr h => ?_)
  · obtain ⟨v, n, rfl, _⟩ := h
    rfl
  · obtain ⟨v, n, rfl, hv, q⟩ := h
    refine ⟨_, (pss_cons (ps_if (PW.pt (pw_or (pt_not (pt_val (pe_callB call_isi (by rfl) T.b_isinstance (by decide +kernel) (pa_cons (pv 0) (pa_cons (pe_bltn (v := .ty "tuple") (u := .type "tuple") (by rfl) T.b_tuple (by decide +kernel) rfl) pa_nil))))) (pw_or (pt_cmpR op_ne (pe_callB call_len (by rfl) T.b_len (by decide +kernel) (pa_cons (pv 0) pa_nil)) pe_int (nomark _)) (pw_or (pt_not (pt_val (pe_callN c__is_count (hr.mono (by first | decide | omega)) rfl (pa_cons (pe_ix ix_tup (pv 0) pe_int (fun _ _ => rfl)) pa_nil)))) (pw_or1 (pt_not (pt_val (pe_callN c__is_count (hr.mono (by first | decide | omega)) rfl (pa_cons (pe_ix ix_tup (pv 0) pe_int (fun _ _ => rfl)) pa_nil))))))))) (pss_one (ps_ret pe_bl)) pss_nil)
      (pss_cons (ps_if (PW.pt (pw_or (pt_val (pe_callN c_is_word (hr.mono (by first | decide | omega)) rfl (pa_cons (pe_ix ix_tup (pv 0) pe_int (fun _ _ => rfl)) pa_nil))) (pw_or1 (pt_val (pe_callN c_is_variable (hr.mono (by first | decide | omega)) rfl (pa_cons (pe_ix ix_tup (pv 0) pe_int (fun _ _ => rfl)) pa_nil)))))) (pss_one (ps_ret pe_bl)) pss_nil)
      (pss_one (ps_ret (pe_and (pe_callB call_isi (by rfl) T.b_isinstance (by decide +kernel) (pa_cons (pe_ix ix_tup (pv 0) pe_int (fun _ _ => rfl)) (pa_cons (pe_bltn (v := .ty "str") (u := .type "str") (by rfl) T.b_str (by decide +kernel) rfl) pa_nil))) (pe_and (pe_cmpR op_eq (pe_ix ix_tup (pv 0) pe_int (fun _ _ => rfl)) (pe_globE rfl T.g_GAP) (nomark _)) (pe_one (pe_cmpR op_eq (pe_ix ix_tup (pv 0) pe_int (fun _ _ => rfl)) pe_int (nomark _))))))))), ?_⟩
    have three : V.bl (!decide (V.int ((3 : Nat) : Int) = V.int 3)) = V.bl false := congrArg (fun b => V.bl (!b)) (decide_eq_true rfl)
    rcases n with _ | ⟨b, h, m⟩
    · rcases hv with ⟨t, ht, hk⟩ | ⟨p, xs, rfl, hp, hl, hl2⟩ | ⟨p, x, i, j, rfl, hp, hx⟩ | ⟨p, b, h, m, rfl, hp⟩
      · exact ⟨v, rfl, v, .ty "tuple", t, .type "tuple", false, rfl, .ty _, ht _ (Same.refl H), hk, false, rfl, iteT (iteT (q H (Same.refl H)))⟩
      · refine ⟨.ref p, rfl, .ref p, .ty "tuple", .type "tuple", .type "tuple", true, rfl, .ty _, .base (.tup hp), kit_ty (by decide +kernel), true, rfl, iteF ?_⟩
        refine ⟨.ref p, rfl, .ref p, xs.length, rfl, .inr ⟨xs, .of hp, rfl⟩, rfl, true, ?_, iteT (iteT (q H (Same.refl H)))⟩
        exact congrArg (fun b => V.bl (!b)) (decide_eq_false fun e => hl (Int.ofNat.inj (V.int.inj e)))
      · refine ⟨.ref p, rfl, .ref p, .ty "tuple", .type "tuple", .type "tuple", true, rfl, .ty _, .base (.tup hp), kit_ty (by decide +kernel), true, rfl, iteF ?_⟩
        refine ⟨.ref p, rfl, .ref p, 3, rfl, .inr ⟨_, .of hp, rfl⟩, rfl, false, three, iteF ?_⟩
        exact ⟨.ref p, rfl, p, _, 0, .str x, rfl, rfl, .of hp, atI_nat (j := 0) rfl, .str x, rfl, .inr (.inr ⟨x, rfl, hx⟩), fun H1 s1 => ⟨false, rfl, iteT (iteT (q H1 s1))⟩⟩
      · refine ⟨.ref p, rfl, .ref p, .ty "tuple", .type "tuple", .type "tuple", true, rfl, .ty _, .base (.tup hp), kit_ty (by decide +kernel), true, rfl, iteF ?_⟩
        refine ⟨.ref p, rfl, .ref p, 3, rfl, .inr ⟨_, .of hp, rfl⟩, rfl, false, three, iteF ?_⟩
        exact ⟨.ref p, rfl, p, _, 0, .bl b, rfl, rfl, .of hp, atI_nat (j := 0) rfl, .bl b, rfl, .inr (.inl ⟨b, rfl⟩), fun H1 s1 => ⟨false, rfl, iteT (iteT (q H1 s1))⟩⟩
    · obtain ⟨p, rfl, hp, hl, ha⟩ := hv
      refine ⟨.ref p, rfl, .ref p, .ty "tuple", .type "tuple", .type "tuple", true, rfl, .ty _, .base (.tup hp), kit_ty (by decide +kernel), true, rfl, iteF ?_⟩
      refine ⟨.ref p, rfl, .ref p, 3, rfl, .inr ⟨_, .of hp, rfl⟩, rfl, false, three, iteF ?_⟩
      have ok : okN (some (b, h, m)) = ((isCnt b && isCnt m) && ((isW (.str h) || isV (.str h)) || (decide (h = "?") && decide (m = 0)))) := rfl
      rw [ok] at q
      refine ⟨.ref p, rfl, p, _, 0, .int b, rfl, rfl, .of hp, atI_nat (j := 0) rfl, .int b, rfl, .inl ⟨b, rfl⟩, fun H1 s1 => ⟨isCnt b, rfl, ?_⟩⟩
      cases eb : isCnt b
      · rw [eb] at q
        exact iteT (iteT (q H1 s1))
      refine iteF ?_
      have hp1 := s1 p _ hp
      refine ⟨.ref p, rfl, p, _, 2, .int m, rfl, rfl, .of hp1, atI_nat (j := 2) rfl, .int m, rfl, .inl ⟨m, rfl⟩, fun H2 s2 => ⟨isCnt m, rfl, ?_⟩⟩
      cases em : isCnt m
      · rw [em, Bool.and_false] at q
        exact iteT (q H2 (s1.trans s2))
      refine iteF ?_
      have hp2 := s2 p _ hp1
      rw [eb, em, Bool.and_true, Bool.true_and] at q
      refine nx_go ?_
      dsimp only
      refine ⟨.ref p, rfl, p, _, 1, .str h, rfl, rfl, .of hp2, atI_nat (j := 1) rfl, .str h, rfl, .inl ⟨h, rfl, by omega, ha⟩, fun H3 s3 => ⟨isW (.str h), rfl, ?_⟩⟩
      cases ew : isW (.str h)
      · refine iteF ?_
        have hp3 := s3 p _ hp2
        refine ⟨.ref p, rfl, p, _, 1, .str h, rfl, rfl, .of hp3, atI_nat (j := 1) rfl, .str h, rfl, .inr (.inr (.inl ⟨h, rfl, by omega⟩)), fun H4 s4 => ⟨isV (.str h), rfl, ?_⟩⟩
        cases ev : isV (.str h)
        · refine iteF ?_
          refine nx_go ?_
          dsimp only
          have hp4 := s4 p _ hp3
          have z := q H4 (((s1.trans s2).trans s3).trans s4)
          rw [ew, ev, Bool.false_or, Bool.false_or] at z
          refine ⟨.ref p, rfl, p, _, 1, .str h, rfl, rfl, .of hp4, atI_nat (j := 1) rfl, .str h, .ty "str", .type "str", .type "str", true, rfl, .ty _, .base (.str h), kit_ty (by decide +kernel), true, rfl, iteT ?_⟩
          refine ⟨.ref p, rfl, p, _, 1, .str h, rfl, rfl, .of hp4, atI_nat (j := 1) rfl, rfl, _, rfl, ?_⟩
          by_cases e : h = "?"
          · rw [decide_eq_true e, Bool.true_and] at z
            rw [decide_eq_true (congrArg V.str e)]
            refine iteT ?_
            refine ⟨.ref p, rfl, p, _, 2, .int m, rfl, rfl, .of hp4, atI_nat (j := 2) rfl, rfl, ?_⟩
            by_cases e2 : m = 0
            · rw [decide_eq_true (congrArg V.int e2)]
              rw [decide_eq_true e2] at z
              exact z
            · rw [decide_eq_false (fun x => e2 (V.int.inj x))]
              rw [decide_eq_false e2] at z
              exact z
          · rw [decide_eq_false e, Bool.false_and] at z
            rw [decide_eq_false (fun x => e (V.str.inj x))]
            exact iteF z
        · rw [ew, ev] at q
          exact iteT (q H4 (((s1.trans s2).trans s3).trans s4))
      · rw [ew] at q
        exact iteT (iteT (q H3 ((s1.trans s2).trans s3)))
theorem ok_are_nodes (T : Txt K mg C_Program) (c_is_variable : CalN P w K mg base "is_variable" 1 ["value"] (sp_is_variable K)) (c__is_node : CalN P w K mg base "_is_node" 3 ["value"] (sp__is_node K)) (c_level_of : CalN P w K mg base "level_of" 1 ["variable"] (sp_level_of K)) {f : Addr} {fd : FuncData} (F : Fun K "are_nodes" "are_nodes" s_are_nodes f fd) : FnOk P w K mg base CX0 4 f fd ["nodes", "bound"] (sp_are_nodes K) := by
  have nd := sc_are_nodes.nd
  refine F.ok sc_are_nodes (fun vs H Q E h => ?_) (fun cdv A outer s H vs Q E hr h => ?_)
  · obtain ⟨v, bd, rfl, _⟩ := h
    rfl
  · obtain ⟨v, bd, rfl, hv⟩ := h
    refine ⟨_, (pss_cons (ps_if (PW.pt (pw_or (pt_not (pt_val (pe_callB call_isi (by rfl) T.b_isinstance (by decide +kernel) (pa_cons (pv 0) (pa_cons (pe_bltn (v := .ty "tuple") (u := .type "tuple") (by rfl) T.b_tuple (by decide +kernel) rfl) pa_nil))))) (pw_or1 (pt_not (pt_val (pe_callB (cr_all rfl) (by rfl) T.b_all (by decide +kernel) (pa_cons (pe_lcD (own := [("node", 7)]) (by rfl) nd (pi_tup (pv 0)) (blkOk_by (own := [("node", 7)]) (N := ["nodes", "bound", "due", "binders", "head", "many", "inner", "node"]) (sc := (defScope s_are_nodes)) (by decide +kernel)) (fun _ _ _ _ _ => pg_name (i := 7) nd rfl (Or.inl rfl)) (fun _ _ _ _ _ => pts_nil) (fun _ _ _ _ _ => (pe_callN c__is_node (hr.mono (by first | decide | omega)) rfl (pa_cons (pv 7) pa_nil)))) pa_nil))))))) (pss_one (ps_ret pe_bl)) pss_nil)
      (pss_cons (ps_set (i := 2) nd rfl (.inl rfl) (pe_lst (pa_cons (pv 1) pa_nil)))
      (pss_cons (ps_for PassesOwn.never rfl (pi_tup (pv 0)) (pg_tup (by rfl) (pgs_cons (pg_name (i := 3) nd rfl (.inl rfl)) (pgs_cons (pg_name (i := 4) nd rfl (.inl rfl)) (pgs_cons (pg_name (i := 5) nd rfl (.inl rfl)) pgs_nil)))) (pss_cons (ps_if (pt_not (pt_truth (pv 2) (by intro _; rfl))) (pss_one (ps_ret pe_bl)) pss_nil)
      (pss_cons (ps_set (i := 6) nd rfl (.inl rfl) (pe_op op_add (pe_bm0 PySem.F.plainAttrs_list PySem.F.slot_list_pop PySem.F.type_list_pop mt_pop (pv 2)) (pv 3)))
      (pss_cons (ps_if (PW.pt (pw_or (pt_cmpR op_gt (pv 6) (pe_globE rfl T.g_MAX_BOUND) (nomark _)) (pw_or1 (PW.pt (pw_and (pt_val (pe_callN c_is_variable (hr.mono (by first | decide | omega)) rfl (pa_cons (pv 4) pa_nil))) (pw_and1 (pt_cmpR op_ge (pe_callN c_level_of (hr.mono (by first | decide | omega)) rfl (pa_cons (pv 4) pa_nil)) (pv 6) (nomark _)))))))) (pss_one (ps_ret pe_bl)) pss_nil)
      (pss_one (ps_expr (pe_bm PySem.F.plainAttrs_list PySem.F.slot_list_extend PySem.F.type_list_extend mt_extend (pv 2) (pa_cons (pe_op op_rep (pe_lst (pa_cons (pv 6) pa_nil)) (pv 5)) pa_nil))))))))
      (pss_one (ps_ret (pe_notT (pv 2))))))), ?_⟩
    rcases hv with ⟨t, ht, hk, q⟩ | ⟨p, xs, ns, rfl, hp, hz, hns, q⟩
    · exact ⟨v, rfl, v, .ty "tuple", t, .type "tuple", false, rfl, .ty _, ht, hk, false, rfl, iteT (iteT (q H (Same.refl H)))⟩
    · have hlen := hns.len
      refine ⟨.ref p, rfl, .ref p, .ty "tuple", .type "tuple", .type "tuple", true, rfl, .ty _, .base (.tup hp), kit_ty (by decide +kernel), true, rfl, iteF ?_⟩
      refine ⟨.ref p, rfl, p, rfl, ⟨xs, SqT.of hp⟩, fun D hD => lc_tup (xs := xs) (fun i H' => H' D = some (.lst (((ns.take i).map okN).map V.bl)) ∧ Same H H') ?_ (fun i H1 _ hP => SqT.of (hP.2 _ _ hp)) (fun i x H1 hx hP => ?_) (fun H1 hP => ?_)⟩
      · exact ⟨upd_same, (Same.refl H).mut hD⟩
      · obtain ⟨hD1, s1⟩ := hP
        obtain ⟨n, hn, hv⟩ := hns.get hx
        have io := lt_of_get hn
        refine ⟨rfl, tyes ?_⟩
        refine ⟨x, rfl, x, n, rfl, hv.same s1, fun H2 s2 => ⟨_, s2 _ _ hD1, lt_line' ?_, ?_, (s1.trans s2).mut hD⟩⟩
        · rw [List.length_map, List.length_map, List.length_take]
          omega
        · rw [upd_same, take_next hn, List.map_append, List.map_append]
          rfl
      · obtain ⟨hD1, s1⟩ := hP
        rw [hlen, List.take_length] at hD1
        refine ⟨D, _, rfl, SqL.of hD1, ?_⟩
        have ea : (ns.map okN).all id = ns.all okN := by rw [List.all_map]; rfl
        rw [ea]
        cases eo : ns.all okN with
        | false =>
          rw [eo, Bool.false_and] at q
          exact ⟨false, rfl, iteT (q H1 s1)⟩
        | true =>
          rw [eo, Bool.true_and] at q
          refine ⟨true, rfl, iteF ?_⟩
          refine nx_go ?_
          dsimp only
          have hp1 := s1 _ _ hp
          have hns1 := hns.same s1
          generalize hms : ns.filterMap id = ms at q
          have ens := all_some eo
          rw [hms] at ens
          subst ens
          rw [List.length_map] at hlen
          refine ⟨.int bd, rfl, lt_line (by show 1 ≤ 1000000; decide), fun l hl => ?_⟩
          refine asg_go2 ?_
          dsimp only
          refine ⟨.ref p, rfl, p, rfl, ⟨xs, SqT.of ((Same.refl H1).mut hl _ _ hp1)⟩, for_tup (xs := xs) (fun i σ' H' => (∃ s2 s3 s4 s5, σ' = [some (.ref p), some (.int bd), some (.ref l), s2, s3, s4, s5, none]) ∧ (∃ D : List Int, H' l = some (.lst (D.reverse.map V.int)) ∧ D.length ≤ 1 + 15 * i ∧ runN [bd] ms = runN D (ms.drop i)) ∧ Same H1 H') ?_ (fun i σ' H' _ hP => SqT.of (hP.2.2 _ _ hp1)) (fun i x σ' H' hx hP => ?_) (fun σ' H' hP => ?_)⟩
          · exact ⟨⟨_, _, _, _, rfl⟩, ⟨[bd], upd_same, Nat.le_add_right _ _, rfl⟩, (Same.refl H1).mut hl⟩
          · obtain ⟨⟨s2, s3, s4, s5, rfl⟩, ⟨D, hD, lD, eD⟩, s6⟩ := hP
            obtain ⟨n, hn, hv⟩ := hns1.get hx
            rw [List.getElem?_map] at hn
            cases em : ms[i]? with
            | none =>
              rw [em] at hn
              cases hn
            | some y =>
            rw [em] at hn
            obtain ⟨b, h, m⟩ := y
            obtain rfl := Option.some.inj hn
            obtain ⟨q0, rfl, hq, hhl, hha⟩ := hv
            have hi := lt_of_get em
            have okb : okN (some (b, h, m)) = true := List.all_eq_true.mp eo _ (List.mem_map_of_mem (List.mem_of_getElem? em))
            have hm : isCnt m = true := (Bool.and_eq_true_iff.mp (Bool.and_eq_true_iff.mp okb).1).2
            have hm0 : 0 ≤ m := of_decide_eq_true (Bool.and_eq_true_iff.mp hm).1
            have hm1 : m ≤ 15 := of_decide_eq_true (Bool.and_eq_true_iff.mp hm).2
            have hdr : ms.drop i = (b, h, m) :: ms.drop (i + 1) := by
              rw [List.drop_eq_getElem_cons hi]
              exact congrArg (· :: _) (Option.some.inj ((List.getElem?_eq_getElem hi).symm.trans em))
            rw [hdr] at eD
            refine ⟨q0, _, rfl, .of (s6 _ _ hq), rfl, .int b, _, rfl, asg_go2 ⟨.str h, _, rfl, asg_go2 ⟨.int m, _, rfl, asg_go2 ⟨rfl, ?_⟩⟩⟩⟩
            dsimp only [List.set]
            cases D with
            | nil =>
              have z := q H' (s1.trans s6)
              rw [eD] at z
              exact ⟨.ref l, rfl, false, .inl ⟨_, SqL.of hD, rfl⟩, iteT z⟩
            | cons d ds =>
            rw [List.reverse_cons, List.map_append] at hD
            have hD : H' l = some (.lst (ds.reverse.map V.int ++ [V.int d])) := hD
            refine ⟨.ref l, rfl, true, .inl ⟨_, SqL.of hD, ?_⟩, iteF ?_⟩
            · cases ds.reverse.map V.int <;> rfl
            refine nx_go ?_
            dsimp only
            refine ⟨.ref l, rfl, .inl ⟨rfl, _, SqL.of hD⟩, l, _, .int d, rfl, rfl, hD, ?_, .int b, rfl, d, b, rfl, rfl, ?_⟩
            · rw [List.length_append, List.length_singleton, Nat.add_sub_cancel, List.getElem?_concat_length]
            rw [List.dropLast_concat]
            refine asg_go2 ?_
            dsimp only [List.set]
            have sg : Same H1 (upd H' l (.lst (ds.reverse.map V.int))) := s6.mut hl
            have hG : upd H' l (.lst (ds.reverse.map V.int)) l = some (.lst (ds.reverse.map V.int)) := upd_same
            generalize upd H' l (.lst (ds.reverse.map V.int)) = G at sg hG ⊢
            have er : runN (d :: ds) ((b, h, m) :: ms.drop (i + 1)) = if (decide (d + b > 100) || (isV (.str h) && decide ((lev h : Int) ≥ d + b))) = true then false else runN (List.replicate m.toNat (d + b) ++ ds) (ms.drop (i + 1)) := rfl
            rw [er] at eD
            generalize hbad : (decide (d + b > 100) || (isV (.str h) && decide ((lev h : Int) ≥ d + b))) = bad at eD
            refine cut_if (fun c H2 => c = bad ∧ Same G H2) (fun N hN => ?_) (fun c H2 hc => ?_)
            · refine ⟨.int (d + b), rfl, d + b, 100, rfl, rfl, _, rfl, ?_⟩
              rw [← hbad] at hN
              by_cases e1 : d + b > 100
              · rw [decide_eq_true e1, Bool.true_or] at hN
                rw [decide_eq_true (show (100 : Int) < d + b from e1)]
                exact iteT (hN true G ⟨rfl, Same.refl G⟩)
              · rw [decide_eq_false e1, Bool.false_or] at hN
                rw [decide_eq_false (show ¬ (100 : Int) < d + b from e1)]
                refine iteF ?_
                refine ⟨.str h, rfl, .str h, rfl, .inr (.inr (.inl ⟨h, rfl, by omega⟩)), fun H3 s7 => ⟨isV (.str h), rfl, ?_⟩⟩
                cases ev : isV (.str h) with
                | false =>
                  rw [ev, Bool.false_and] at hN
                  exact iteF (hN false H3 ⟨rfl, s7⟩)
                | true =>
                  rw [ev, Bool.true_and] at hN
                  refine iteT ?_
                  refine ⟨.str h, rfl, h, rfl, ev, fun H4 s8 => ⟨.int (d + b), rfl, (lev h : Int), d + b, rfl, rfl, _, rfl, ?_⟩⟩
                  exact hN _ H4 ⟨rfl, s7.trans s8⟩
            · obtain ⟨rfl, s7⟩ := hc
              have s8 := sg.trans s7
              cases c with
              | true =>
                have z := q H2 (s1.trans s8)
                rw [eD] at z
                exact iteT z
              | false =>
                refine iteF ?_
                refine nx_go ?_
                dsimp only
                have hl2 := s7 _ _ hG
                have eD : runN [bd] ms = runN (List.replicate m.toNat (d + b) ++ ds) (ms.drop (i + 1)) := eD
                refine ⟨.ref l, rfl, .inl ⟨rfl, _, SqL.of hl2⟩, .int (d + b), rfl, lt_line (by show 1 ≤ 1000000; decide), fun p2 hp2 => ?_⟩
                refine ⟨.int m, rfl, p2, m, _, rfl, rfl, upd_same, by omega, by omega, lt_line (by show 1 * m.toNat ≤ 1000000; omega), fun p3 hp3 => ?_⟩
                have np2 : l ≠ p2 := ne_of_none hl2 hp2
                have hl3 : upd H2 p2 (.lst [V.int (d + b)]) l = some (.lst (ds.reverse.map V.int)) := by rw [upd_ne np2]; exact hl2
                have np3 : l ≠ p3 := ne_of_none hl3 hp3
                rw [List.flatten_replicate_singleton]
                have lD : (ds.length + 1) ≤ 1 + 15 * i := lD
                refine ⟨l, p3, _, _, rfl, rfl, (upd_ne np3).trans hl3, upd_same, lt_line (by rw [List.length_map, List.length_reverse, List.length_replicate]; omega), ?_⟩
                refine ⟨⟨_, _, _, _, rfl⟩, ⟨List.replicate m.toNat (d + b) ++ ds, ?_, ?_, eD⟩, ((s8.new hp2).new hp3).mut hl⟩
                · rw [upd_same, List.reverse_append, List.map_append, List.reverse_replicate, List.map_replicate]
                · rw [List.length_append, List.length_replicate]
                  omega
          · obtain ⟨⟨s2, s3, s4, s5, rfl⟩, ⟨D, hD, lD, eD⟩, s6⟩ := hP
            dsimp only
            have z := q H' (s1.trans s6)
            rw [show ms.drop xs.length = [] by rw [hlen]; exact List.drop_length] at eD
            rw [eD] at z
            refine ⟨.ref l, rfl, !(D.reverse.map V.int).isEmpty, .inl ⟨_, SqL.of hD, rfl⟩, ?_⟩
            cases D with
            | nil => exact z
            | cons d ds =>
              rw [show (d :: ds).reverse.map V.int = ds.reverse.map V.int ++ [V.int d] by rw [List.reverse_cons, List.map_append]; rfl]
              cases ds.reverse.map V.int with
              | nil => exact z
              | cons _ _ => exact z
end


end My
namespace My
open PySem PySem.Spec PyProof.Rows L2 TL
set_option pp.maxSteps 3000
set_option pp.deepTerms false
/-! ### what is told of a tree's nodes -/
/-- rows of nodes that make one tree -/
structure TreeV (K : PySem.W.Frag) (H : Hp) (p : Addr) (ms : List (Int × Str × Int)) : Prop where
  at' : ∃ xs, H p = some (.tup xs) ∧ NdsV K H xs (ms.map some)
  ok : ms.all (fun m => okN (some m)) = true
  run : runN [0] ms = true
  few : ms.length ≤ 1000
def sp_gaps_of (K : PySem.W.Frag) : Sp := fun vs H Q _ => ∃ p ms, vs = [.ref p] ∧ TreeV K H p ms ∧
  ∀ q rs H', Same H H' → H' q = some (.tup rs) → rs.isEmpty = !(ms.any fun m => decide (m.2.1 = "?")) → Q (.ref q) H'
def sp_places_above (K : PySem.W.Frag) : Sp := fun vs H Q _ => ∃ p ms, vs = [.ref p] ∧ TreeV K H p ms ∧ ∀ q H', Same H H' → Q (.ref q) H'
def sp_bounds_of (K : PySem.W.Frag) : Sp := fun vs H Q _ => ∃ p ms, vs = [.ref p] ∧ TreeV K H p ms ∧
  ∀ (q : Addr) (bs : List Int) (H' : Hp), Same H H' → H' q = some (.lst (bs.map V.int)) → bs.length = ms.length → (∀ b ∈ bs, (0 : Int) ≤ b ∧ b ≤ 100) → Q (.ref q) H'
def sp_text_of_nodes (K : PySem.W.Frag) : Sp := fun vs H Q _ => ∃ p ms, vs = [.ref p] ∧ TreeV K H p ms ∧ ms.length ≤ 40 ∧ ∀ x : Str, ∀ H', Same H H' → Q (.str x) H'
theorem NdsV.item {K : PySem.W.Frag} {H : Hp} {xs : List V} {ms : List (Int × Str × Int)} {i : Nat} {x : V} (h : NdsV K H xs (ms.map some)) (hx : xs[i]? = some x) :
    ∃ b t m, ms[i]? = some (b, t, m) ∧ ms.drop i = (b, t, m) :: ms.drop (i + 1) ∧ ∃ q, x = .ref q ∧ H q = some (.tup [.int b, .str t, .int m]) ∧ t.length ≤ 100 ∧ ∀ c ∈ t.cps.toList, c < 128 := by
  obtain ⟨n, hn, hv⟩ := h.get hx
  rw [List.getElem?_map] at hn
  cases em : ms[i]? with
  | none =>
    rw [em] at hn
    cases hn
  | some y =>
    rw [em] at hn
    obtain ⟨b, t, m⟩ := y
    obtain rfl := Option.some.inj hn
    have hi := lt_of_get em
    refine ⟨b, t, m, rfl, ?_, hv⟩
    rw [List.drop_eq_getElem_cons hi]
    exact congrArg (· :: _) (Option.some.inj ((List.getElem?_eq_getElem hi).symm.trans em))
theorem run_step {D : List Int} {b m : Int} {t : Str} {r : List (Int × Str × Int)} (h : runN D ((b, t, m) :: r) = true) :
    ∃ d ds, D = d :: ds ∧ d + b ≤ 100 ∧ runN (List.replicate m.toNat (d + b) ++ ds) r = true := by
  cases D with
  | nil => cases h
  | cons d ds =>
    have e : runN (d :: ds) ((b, t, m) :: r) = if (decide (d + b > 100) || (isV (.str t) && decide ((lev t : Int) ≥ d + b))) = true then false else runN (List.replicate m.toNat (d + b) ++ ds) r := rfl
    rw [e] at h
    cases hb : (decide (d + b > 100) || (isV (.str t) && decide ((lev t : Int) ≥ d + b))) with
    | true =>
      rw [hb] at h
      cases h
    | false =>
      rw [hb] at h
      refine ⟨d, ds, rfl, ?_, h⟩
      have := of_decide_eq_false (Bool.or_eq_false_iff.mp hb).1
      omega
theorem cnt_of {b m : Int} {t : Str} {ms : List (Int × Str × Int)} (h : ms.all (fun m => okN (some m)) = true) {i : Nat} (e : ms[i]? = some (b, t, m)) : (0 ≤ b ∧ b ≤ 15) ∧ 0 ≤ m ∧ m ≤ 15 := by
  have okb : okN (some (b, t, m)) = true := List.all_eq_true.mp h _ (List.mem_of_getElem? e)
  have h1 := Bool.and_eq_true_iff.mp (Bool.and_eq_true_iff.mp okb).1
  have hb := Bool.and_eq_true_iff.mp h1.1
  have hm := Bool.and_eq_true_iff.mp h1.2
  exact ⟨⟨of_decide_eq_true hb.1, of_decide_eq_true hb.2⟩, of_decide_eq_true hm.1, of_decide_eq_true hm.2⟩
section
variable {P : Program} {w : World} {K : PySem.W.Frag} {mg : Str → Option Value} {base : Heap}
theorem ok_gaps_of (T : Txt K mg C_Program) {f : Addr} {fd : FuncData} (F : Fun K "gaps_of" "gaps_of" s_gaps_of f fd) : FnOk P w K mg base CX0 1 f fd ["nodes"] (sp_gaps_of K) := by
  have nd := sc_gaps_of.nd
  refine F.ok sc_gaps_of (fun vs H Q E h => ?_) (fun cdv A outer s H vs Q E hr h => ?_)
  · obtain ⟨p, ms, rfl, _⟩ := h
    rfl
  · obtain ⟨p, ms, rfl, tr, q⟩ := h
    refine ⟨_, (pss_one (ps_ret (pe_callTy call_tuple_of (by rfl) T.b_tuple (by decide +kernel) (pa_cons (pe_lcD (own := [("at", 1), ("node", 2)]) (by rfl) nd (pi_enumT (by rfl) T.b_enumerate (pa_cons (pv 0) pa_nil)) (blkOk_by (own := [("at", 1), ("node", 2)]) (N := ["nodes", "at", "node"]) (sc := (defScope s_gaps_of)) (by decide +kernel)) (fun _ _ _ _ _ => pg_tup (by rfl) (pgs_cons (pg_name (i := 1) nd rfl (Or.inl rfl)) (pgs_cons (pg_name (i := 2) nd rfl (Or.inl rfl)) pgs_nil))) (fun _ _ _ _ _ => pts_one (pt_cmpR op_eq (pe_ix ix_tup (pv 2) pe_int (fun _ _ => rfl)) (pe_globE rfl T.g_GAP) (nomark _))) (fun _ _ _ _ _ => (pv 1))) pa_nil)))), ?_⟩
    obtain ⟨⟨xs, hp, hn⟩, ok, run, few⟩ := tr
    have hlen := hn.len
    rw [List.length_map] at hlen
    refine ⟨.ref p, rfl, p, xs, rfl, SqT.of hp, fun D hD => lc_enumT (xs := xs) (fun i H' => (∃ rs, H' D = some (.lst rs) ∧ rs.length ≤ i ∧ rs.isEmpty = !((ms.take i).any fun m => decide (m.2.1 = "?"))) ∧ Same H H') ?_ (fun i H1 _ hP => SqT.of (hP.2 _ _ hp)) (fun i x H1 T0 hx hP hT0 => ?_) (fun H1 hP => ?_)⟩
    · exact ⟨⟨[], upd_same, Nat.le_refl _, rfl⟩, (Same.refl H).mut hD⟩
    · obtain ⟨⟨rs, hD1, lr, er⟩, s1⟩ := hP
      obtain ⟨b, t, m, em, hdr, q0, rfl, hq, _⟩ := hn.item hx
      have hi := lt_of_get em
      have sT0 := (Same.refl H1).new (o := .tup [V.int (i : Nat), .ref q0]) hT0
      have s1 := s1.trans sT0
      have hD1 := sT0 _ _ hD1
      have hT : upd H1 T0 (.tup [V.int (i : Nat), .ref q0]) T0 = some (.tup [V.int (i : Nat), .ref q0]) := upd_same
      generalize upd H1 T0 (.tup [V.int (i : Nat), .ref q0]) = G3 at hD1 s1 hT ⊢
      refine ⟨T0, _, rfl, .of hT, rfl, _, _, rfl, asg_go2 ⟨_, _, rfl, asg_go2 ⟨rfl, ?_⟩⟩⟩
      refine ⟨rfl, ?_⟩
      rw [take_next em, List.any_append]
      have e1 : [(b, t, m)].any (fun m : Int × Str × Int => decide (m.2.1 = "?")) = decide (t = "?") := by
        show (decide (t = "?") || false) = _
        rw [Bool.or_false]
      rw [e1]
      refine ⟨.ref q0, rfl, q0, _, 1, .str t, rfl, rfl, .of (s1 _ _ hq), atI_nat (j := 1) rfl, rfl, _, rfl, ?_⟩
      by_cases e : t = "?"
      · rw [decide_eq_true (congrArg V.str e), decide_eq_true e, Bool.or_true]
        refine iteT ?_
        refine ⟨.int (i : Nat), rfl, _, hD1, lt_line' (by omega), ⟨_, upd_same, by rw [List.length_append, List.length_singleton]; omega, ?_⟩, s1.mut hD⟩
        cases rs <;> rfl
      · rw [decide_eq_false (fun x => e (V.str.inj x)), decide_eq_false e, Bool.or_false]
        exact iteF ⟨⟨rs, hD1, by omega, er⟩, s1⟩
    · obtain ⟨⟨rs, hD1, lr, er⟩, s1⟩ := hP
      rw [hlen, List.take_length] at er
      refine ⟨D, _, rfl, .inl ⟨SqL.of hD1, fun l hl => ?_⟩⟩
      exact q l rs _ (s1.new hl) upd_same er
theorem ok_places_above (T : Txt K mg C_Program) {f : Addr} {fd : FuncData} (F : Fun K "places_above" "places_above" s_places_above f fd) : FnOk P w K mg base CX0 1 f fd ["nodes"] (sp_places_above K) := by
  have nd := sc_places_above.nd
  refine F.ok sc_places_above (fun vs H Q E h => ?_) (fun cdv A outer s H vs Q E hr h => ?_)
  · obtain ⟨p, ms, rfl, _⟩ := h
    rfl
  · obtain ⟨p, ms, rfl, tr, q⟩ := h
    refine ⟨_, (pss_cons (ps_set (i := 1) nd rfl (.inl rfl) (pe_lst pa_nil))
      (pss_cons (ps_set (i := 2) nd rfl (.inl rfl) (pe_lst (pa_cons pe_non pa_nil)))
      (pss_cons (ps_for PassesOwn.never rfl (pi_enumT (by rfl) T.b_enumerate (pa_cons (pv 0) pa_nil)) (pg_tup (by rfl) (pgs_cons (pg_name (i := 3) nd rfl (.inl rfl)) (pgs_cons (pg_name (i := 4) nd rfl (.inl rfl)) pgs_nil))) (pss_cons (ps_expr (pe_bm PySem.F.plainAttrs_list PySem.F.slot_list_append PySem.F.type_list_append mt_append (pv 1) (pa_cons (pe_bm0 PySem.F.plainAttrs_list PySem.F.slot_list_pop PySem.F.type_list_pop mt_pop (pv 2)) pa_nil)))
      (pss_one (ps_expr (pe_bm PySem.F.plainAttrs_list PySem.F.slot_list_extend PySem.F.type_list_extend mt_extend (pv 2) (pa_cons (pe_op op_rep (pe_lst (pa_cons (pv 3) pa_nil)) (pe_ix ix_tup (pv 4) pe_int (fun _ _ => rfl))) pa_nil))))))
      (pss_one (ps_ret (pv 1)))))), ?_⟩
    obtain ⟨⟨xs, hp, hn⟩, ok, run, few⟩ := tr
    have hlen := hn.len
    rw [List.length_map] at hlen
    refine ⟨Nat.zero_le _, fun l1 hl1 => asg_go2 ?_⟩
    dsimp only [List.set]
    have s1 : Same H (upd H l1 (.lst [])) := (Same.refl H).new hl1
    have h1 : upd H l1 (.lst []) l1 = some (.lst []) := upd_same
    generalize upd H l1 (.lst []) = G at s1 h1 ⊢
    refine ⟨lt_line (by show 1 ≤ 1000000; decide), fun l2 hl2 => asg_go2 ?_⟩
    dsimp only [List.set]
    have s2 : Same G (upd G l2 (.lst [V.non])) := (Same.refl G).new hl2
    have h2 : upd G l2 (.lst [V.non]) l2 = some (.lst [V.non]) := upd_same
    have n12 : l1 ≠ l2 := ne_of_none h1 hl2
    have h1 := s2 _ _ h1
    have nl2 : H l2 = none := by
      cases e : H l2 with
      | none => rfl
      | some o => rw [s1 _ _ e] at hl2; cases hl2
    have sg := s1.trans s2
    generalize upd G l2 (.lst [V.non]) = G2 at sg h1 h2 ⊢
    refine ⟨.ref p, rfl, p, xs, rfl, SqT.of (sg _ _ hp), for_enumT (xs := xs) (fun i σ' H' => (∃ s3 s4, σ' = [some (.ref p), some (.ref l1), some (.ref l2), s3, s4]) ∧
      (∃ (bs zs : List V) (D : List Int), H' l1 = some (.lst bs) ∧ bs.length = i ∧ H' l2 = some (.lst zs) ∧ zs.length = D.length ∧ D.length ≤ 1 + 15 * i ∧ runN D (ms.drop i) = true) ∧ Same H H') ?_ (fun i σ' H' _ hP => SqT.of (hP.2.2 _ _ hp)) (fun i x σ' H' T0 hx hP hT0 => ?_) (fun σ' H' hP => ?_)⟩
    · exact ⟨⟨_, _, rfl⟩, ⟨[], _, [0], h1, rfl, h2, rfl, (by decide), run⟩, sg⟩
    · obtain ⟨⟨s3, s4, rfl⟩, ⟨bs, zs, D, hb1, lb, hD, lz, lD, rD⟩, s6⟩ := hP
      obtain ⟨b, t, m, em, hdr, q0, rfl, hq, _⟩ := hn.item hx
      rw [hdr] at rD
      obtain ⟨d, ds, rfl, hd, rD⟩ := run_step rD
      obtain ⟨⟨b0, _⟩, m0, m1⟩ := cnt_of ok em
      have hi := lt_of_get em
      have lD : (ds.length + 1) ≤ 1 + 15 * i := lD
      obtain ⟨zi, z, rfl⟩ : ∃ zi z, zs = zi ++ [z] := by
        rcases List.eq_nil_or_concat zs with e | ⟨zi, z, e⟩
        · rw [e] at lz
          cases lz
        · exact ⟨zi, z, by rw [e, List.concat_eq_append]⟩
      have lzi : zi.length = ds.length := by
        rw [List.length_append, List.length_singleton, List.length_cons] at lz
        omega
      have sT0 := (Same.refl H').new (o := .tup [V.int (i : Nat), .ref q0]) hT0
      have s6 := s6.trans sT0
      have hb1 := sT0 _ _ hb1
      have hD := sT0 _ _ hD
      have hT : upd H' T0 (.tup [V.int (i : Nat), .ref q0]) T0 = some (.tup [V.int (i : Nat), .ref q0]) := upd_same
      generalize upd H' T0 (.tup [V.int (i : Nat), .ref q0]) = G3 at hb1 hD s6 hT ⊢
      refine ⟨T0, _, rfl, .of hT, rfl, _, _, rfl, asg_go2 ⟨_, _, rfl, asg_go2 ⟨rfl, ?_⟩⟩⟩
      dsimp only [List.set]
      refine ⟨.ref l1, rfl, .inl ⟨rfl, _, SqL.of hb1⟩, .ref l2, rfl, .inl ⟨rfl, _, SqL.of hD⟩, l2, _, z, rfl, rfl, hD, ?_, ?_⟩
      · rw [List.length_append, List.length_singleton, Nat.add_sub_cancel, List.getElem?_concat_length]
      rw [List.dropLast_concat]
      have ht2 : upd G3 l2 (.lst zi) l2 = some (.lst zi) := upd_same
      have ht1 : upd G3 l2 (.lst zi) l1 = some (.lst bs) := (upd_ne n12).trans hb1
      have sT := s6.mut (o := .lst zi) nl2
      generalize upd G3 l2 (.lst zi) = T1 at ht1 ht2 sT ⊢
      refine ⟨l1, _, z, rfl, rfl, ht1, lt_line' (by omega), ?_⟩
      have hu1 : upd T1 l1 (.lst (bs ++ [z])) l1 = some (.lst (bs ++ [z])) := upd_same
      have hu2 : upd T1 l1 (.lst (bs ++ [z])) l2 = some (.lst zi) := (upd_ne n12.symm).trans ht2
      have sU := sT.mut (o := .lst (bs ++ [z])) hl1
      generalize upd T1 l1 (.lst (bs ++ [z])) = T2 at hu1 hu2 sU ⊢
      refine ⟨.ref l2, rfl, .inl ⟨rfl, _, SqL.of hu2⟩, .int (i : Nat), rfl, lt_line (by show 1 ≤ 1000000; decide), fun p2 hp2 => ?_⟩
      have sV := sU.new (o := .lst [V.int (i : Nat)]) hp2
      refine ⟨.ref q0, rfl, q0, _, 2, .int m, rfl, rfl, .of (sV _ _ hq), atI_nat (j := 2) rfl, p2, m, _, rfl, rfl, upd_same, by omega, by omega, lt_line (by show 1 * m.toNat ≤ 1000000; omega), fun p3 hp3 => ?_⟩
      have g2 := upd_ne (H := T2) (o := .lst [V.int (i : Nat)]) (ne_of_none hu2 hp2)
      have g1 := upd_ne (H := T2) (o := .lst [V.int (i : Nat)]) (ne_of_none hu1 hp2)
      rw [hu2] at g2
      rw [hu1] at g1
      have f2 := upd_ne (H := upd T2 p2 (.lst [V.int (i : Nat)])) (o := .lst (List.replicate m.toNat [V.int (i : Nat)]).flatten) (ne_of_none g2 hp3)
      have f1 := upd_ne (H := upd T2 p2 (.lst [V.int (i : Nat)])) (o := .lst (List.replicate m.toNat [V.int (i : Nat)]).flatten) (ne_of_none g1 hp3)
      rw [g2] at f2
      rw [g1] at f1
      refine ⟨l2, p3, _, _, rfl, rfl, f2, upd_same, lt_line (by rw [List.flatten_replicate_singleton, List.length_replicate]; omega), ?_⟩
      refine ⟨⟨_, _, rfl⟩, ⟨bs ++ [z], _, List.replicate m.toNat (d + b) ++ ds, (upd_ne n12).trans f1, by rw [List.length_append, List.length_singleton, lb], upd_same, ?_, ?_, rD⟩, (sV.new hp3).mut nl2⟩
      · rw [List.flatten_replicate_singleton, List.length_append, List.length_append, List.length_replicate, List.length_replicate]
        omega
      · rw [List.length_append, List.length_replicate]
        omega
    · obtain ⟨⟨s3, s4, rfl⟩, _, s6⟩ := hP
      exact ⟨.ref l1, rfl, q l1 H' s6⟩
theorem ok_bounds_of (T : Txt K mg C_Program) {f : Addr} {fd : FuncData} (F : Fun K "bounds_of" "bounds_of" s_bounds_of f fd) : FnOk P w K mg base CX0 1 f fd ["nodes"] (sp_bounds_of K) := by
  have nd := sc_bounds_of.nd
  refine F.ok sc_bounds_of (fun vs H Q E h => ?_) (fun cdv A outer s H vs Q E hr h => ?_)
  · obtain ⟨p, ms, rfl, _⟩ := h
    rfl
  · obtain ⟨p, ms, rfl, tr, q⟩ := h
    refine ⟨_, (pss_cons (ps_set (i := 1) nd rfl (.inl rfl) (pe_lst pa_nil))
      (pss_cons (ps_set (i := 2) nd rfl (.inl rfl) (pe_lst (pa_cons pe_int pa_nil)))
      (pss_cons (ps_for PassesOwn.never rfl (pi_tup (pv 0)) (pg_tup (by rfl) (pgs_cons (pg_name (i := 3) nd rfl (.inl rfl)) (pgs_cons (pg_name (i := 4) nd rfl (.inl rfl)) (pgs_cons (pg_name (i := 5) nd rfl (.inl rfl)) pgs_nil)))) (pss_cons (ps_expr (pe_bm PySem.F.plainAttrs_list PySem.F.slot_list_append PySem.F.type_list_append mt_append (pv 1) (pa_cons (pe_bm0 PySem.F.plainAttrs_list PySem.F.slot_list_pop PySem.F.type_list_pop mt_pop (pv 2)) pa_nil)))
      (pss_one (ps_expr (pe_bm PySem.F.plainAttrs_list PySem.F.slot_list_extend PySem.F.type_list_extend mt_extend (pv 2) (pa_cons (pe_op op_rep (pe_lst (pa_cons (pe_op op_add (pe_ix ix_list (pv 1) (pe_un un_neg pe_int) (fun _ _ => rfl)) (pv 3)) pa_nil)) (pv 5)) pa_nil))))))
      (pss_one (ps_ret (pv 1)))))), ?_⟩
    obtain ⟨⟨xs, hp, hn⟩, ok, run, few⟩ := tr
    have hlen := hn.len
    rw [List.length_map] at hlen
    refine ⟨Nat.zero_le _, fun l1 hl1 => asg_go2 ?_⟩
    dsimp only [List.set]
    have s1 : Same H (upd H l1 (.lst [])) := (Same.refl H).new hl1
    have h1 : upd H l1 (.lst []) l1 = some (.lst []) := upd_same
    generalize upd H l1 (.lst []) = G at s1 h1 ⊢
    refine ⟨lt_line (by show 1 ≤ 1000000; decide), fun l2 hl2 => asg_go2 ?_⟩
    dsimp only [List.set]
    have s2 : Same G (upd G l2 (.lst [V.int 0])) := (Same.refl G).new hl2
    have h2 : upd G l2 (.lst [V.int 0]) l2 = some (.lst [V.int 0]) := upd_same
    have n12 : l1 ≠ l2 := ne_of_none h1 hl2
    have h1 := s2 _ _ h1
    have nl2 : H l2 = none := by
      cases e : H l2 with
      | none => rfl
      | some o => rw [s1 _ _ e] at hl2; cases hl2
    have sg := s1.trans s2
    generalize upd G l2 (.lst [V.int 0]) = G2 at sg h1 h2 ⊢
    refine ⟨.ref p, rfl, p, rfl, ⟨xs, SqT.of (sg _ _ hp)⟩, for_tup (xs := xs) (fun i σ' H' => (∃ s3 s4 s5, σ' = [some (.ref p), some (.ref l1), some (.ref l2), s3, s4, s5]) ∧
      (∃ bs D : List Int, H' l1 = some (.lst (bs.map V.int)) ∧ bs.length = i ∧ (∀ b ∈ bs, 0 ≤ b ∧ b ≤ 100) ∧ H' l2 = some (.lst (D.reverse.map V.int)) ∧ D.length ≤ 1 + 15 * i ∧ runN D (ms.drop i) = true ∧ (∀ b ∈ D, 0 ≤ b ∧ b ≤ 100)) ∧ Same H H') ?_ (fun i σ' H' _ hP => SqT.of (hP.2.2 _ _ hp)) (fun i x σ' H' hx hP => ?_) (fun σ' H' hP => ?_)⟩
    · refine ⟨⟨_, _, _, rfl⟩, ⟨[], [0], h1, rfl, (fun b hb => nomatch hb), h2, (by decide), run, fun b hb => ?_⟩, sg⟩
      rw [List.mem_singleton.mp hb]
      decide
    · obtain ⟨⟨s3, s4, s5, rfl⟩, ⟨bs, D, hb1, lb, bb, hD, lD, rD, bD⟩, s6⟩ := hP
      obtain ⟨b, t, m, em, hdr, q0, rfl, hq, _⟩ := hn.item hx
      rw [hdr] at rD
      obtain ⟨d, ds, rfl, hd, rD⟩ := run_step rD
      obtain ⟨⟨b0, _⟩, m0, m1⟩ := cnt_of ok em
      have hi := lt_of_get em
      obtain ⟨d0, d1⟩ := bD d List.mem_cons_self
      have lD : (ds.length + 1) ≤ 1 + 15 * i := lD
      rw [List.reverse_cons, List.map_append] at hD
      have hD : H' l2 = some (.lst (ds.reverse.map V.int ++ [V.int d])) := hD
      refine ⟨q0, _, rfl, .of (s6 _ _ hq), rfl, .int b, _, rfl, asg_go2 ⟨.str t, _, rfl, asg_go2 ⟨.int m, _, rfl, asg_go2 ⟨rfl, ?_⟩⟩⟩⟩
      dsimp only [List.set]
      refine ⟨.ref l1, rfl, .inl ⟨rfl, _, SqL.of hb1⟩, .ref l2, rfl, .inl ⟨rfl, _, SqL.of hD⟩, l2, _, .int d, rfl, rfl, hD, ?_, ?_⟩
      · rw [List.length_append, List.length_singleton, Nat.add_sub_cancel, List.getElem?_concat_length]
      rw [List.dropLast_concat]
      have ht2 : upd H' l2 (.lst (ds.reverse.map V.int)) l2 = some (.lst (ds.reverse.map V.int)) := upd_same
      have ht1 : upd H' l2 (.lst (ds.reverse.map V.int)) l1 = some (.lst (bs.map V.int)) := (upd_ne n12).trans hb1
      have sT := s6.mut (o := .lst (ds.reverse.map V.int)) nl2
      generalize upd H' l2 (.lst (ds.reverse.map V.int)) = T1 at ht1 ht2 sT ⊢
      refine ⟨l1, _, .int d, rfl, rfl, ht1, lt_line' (by rw [List.length_map]; omega), ?_⟩
      have hu1 : upd T1 l1 (.lst (bs.map V.int ++ [V.int d])) l1 = some (.lst (bs.map V.int ++ [V.int d])) := upd_same
      have hu2 : upd T1 l1 (.lst (bs.map V.int ++ [V.int d])) l2 = some (.lst (ds.reverse.map V.int)) := (upd_ne n12.symm).trans ht2
      have sU := sT.mut (o := .lst (bs.map V.int ++ [V.int d])) hl1
      generalize upd T1 l1 (.lst (bs.map V.int ++ [V.int d])) = T2 at hu1 hu2 sU ⊢
      refine ⟨.ref l2, rfl, .inl ⟨rfl, _, SqL.of hu2⟩, .ref l1, rfl, 1, rfl, l1, _, _, .int d, rfl, rfl, SqL.of hu1, atI_last _ _, .int b, rfl, d, b, rfl, rfl, lt_line (by show 1 ≤ 1000000; decide), fun p2 hp2 => ?_⟩
      refine ⟨.int m, rfl, p2, m, _, rfl, rfl, upd_same, by omega, by omega, lt_line (by show 1 * m.toNat ≤ 1000000; omega), fun p3 hp3 => ?_⟩
      have g2 := upd_ne (H := T2) (o := .lst [V.int (d + b)]) (ne_of_none hu2 hp2)
      have g1 := upd_ne (H := T2) (o := .lst [V.int (d + b)]) (ne_of_none hu1 hp2)
      rw [hu2] at g2
      rw [hu1] at g1
      have f2 := upd_ne (H := upd T2 p2 (.lst [V.int (d + b)])) (o := .lst (List.replicate m.toNat [V.int (d + b)]).flatten) (ne_of_none g2 hp3)
      have f1 := upd_ne (H := upd T2 p2 (.lst [V.int (d + b)])) (o := .lst (List.replicate m.toNat [V.int (d + b)]).flatten) (ne_of_none g1 hp3)
      rw [g2] at f2
      rw [g1] at f1
      refine ⟨l2, p3, _, _, rfl, rfl, f2, upd_same, lt_line (by rw [List.length_map, List.length_reverse, List.flatten_replicate_singleton, List.length_replicate]; omega), ?_⟩
      refine ⟨⟨_, _, _, rfl⟩, ⟨bs ++ [d], List.replicate m.toNat (d + b) ++ ds, ?_, ?_, ?_, ?_, ?_, rD, ?_⟩, ((sU.new hp2).new hp3).mut nl2⟩
      · rw [upd_ne n12, f1, List.map_append]
        rfl
      · rw [List.length_append, List.length_singleton, lb]
      · intro z hz
        rcases List.mem_append.mp hz with hz | hz
        · exact bb z hz
        · rw [List.mem_singleton.mp hz]
          exact ⟨d0, d1⟩
      · rw [upd_same, List.flatten_replicate_singleton, List.reverse_append, List.map_append, List.reverse_replicate, List.map_replicate]
      · rw [List.length_append, List.length_replicate]
        omega
      · intro z hz
        rcases List.mem_append.mp hz with hz | hz
        · rw [List.eq_of_mem_replicate hz]
          omega
        · exact bD z (List.mem_cons_of_mem _ hz)
    · obtain ⟨⟨s3, s4, s5, rfl⟩, ⟨bs, D, hb1, lb, bb, _⟩, s6⟩ := hP
      exact ⟨.ref l1, rfl, q l1 bs H' s6 hb1 (lb.trans hlen) bb⟩
end


end My
namespace My
open PySem PySem.Spec PyProof.Rows L2 TL
set_option pp.maxSteps 3000
set_option pp.deepTerms false
/-! ### the text of a tree's nodes -/
def tot (ts : List Str) : Nat := (ts.map (·.length)).sum + ts.length
theorem tot_append (a b : List Str) : tot (a ++ b) = tot a + tot b := by
  unfold tot
  rw [List.map_append, List.sum_append, List.length_append]
  omega
theorem tot_reverse (a : List Str) : tot a.reverse = tot a := by
  unfold tot
  rw [List.map_reverse, List.sum_reverse, List.length_reverse]
theorem join_len (sep : Str) (ys : List Str) : (Txt.join sep ys).length = (ys.map (·.length)).sum + (ys.length - 1) * sep.length := PySem.size_glued sep ys
theorem app_len (x y : Str) : (x ++ y).length = x.length + y.length := by
  rw [len_tl, tl_append, List.length_append, ← len_tl, ← len_tl]
theorem cut_parts (ts : List Str) (k : Int) : ∃ j, tot (ts.take j) + tot (ts.drop j) = tot ts ∧ cutV (ts.map V.str) (some k) none = (ts.drop j).map V.str ∧ cutV (ts.map V.str) none (some k) = (ts.take j).map V.str := by
  refine ⟨HT.sIx (ts.map V.str).length 0 (some k), ?_, ?_, ?_⟩
  · rw [← tot_append, List.take_append_drop]
  · unfold cutV
    rw [HT.sIx_none, ← List.map_drop, List.take_of_length_le]
    rw [List.length_map, List.length_drop, List.length_map]
    exact Nat.le_refl _
  · unfold cutV
    rw [HT.sIx_none, List.drop_zero, Nat.sub_zero, ← List.map_take]
    rfl
theorem lev_len : ∀ i : Fin 200, (toString ((i.val : Nat) : Int) : Str).length ≤ 3 := by decide +kernel
theorem log_lev {n : Nat} (h : n < 200) : ((n : Int)).natAbs.log2 < 1920 := by
  have := PySem.Flt.log2_lt_of (k := 8) (by decide) (show ((n : Int)).natAbs < 2 ^ 8 by omega)
  omega
section
variable {P : Program} {w : World} {K : PySem.W.Frag} {mg : Str → Option Value} {base : Heap}
theorem ok_text_of_nodes (T : Txt K mg C_Program) (c_bounds_of : CalN P w K mg base "bounds_of" 1 ["nodes"] (sp_bounds_of K)) {f : Addr} {fd : FuncData} (F : Fun K "text_of_nodes" "text_of_nodes" s_text_of_nodes f fd) : FnOk P w K mg base CX0 2 f fd ["nodes"] (sp_text_of_nodes K) := by
  have nd := sc_text_of_nodes.nd
  refine F.ok sc_text_of_nodes (fun vs H Q E h => ?_) (fun cdv A outer s H vs Q E hr h => ?_)
  · obtain ⟨p, ms, rfl, _⟩ := h
    rfl
  · obtain ⟨p, ms, rfl, tr, q⟩ := h
    refine ⟨_, (pss_cons (ps_set (i := 1) nd rfl (.inl rfl) (pe_callN c_bounds_of (hr.mono (by first | decide | omega)) rfl (pa_cons (pv 0) pa_nil)))
      (pss_cons (ps_set (i := 2) nd rfl (.inl rfl) (pe_lst pa_nil))
      (pss_cons (ps_for PassesOwn.never rfl (pi_range3 (by rfl) T.b_range (pa_cons (pe_op op_sub (pe_callB call_len (by rfl) T.b_len (by decide +kernel) (pa_cons (pv 0) pa_nil)) pe_int) (pa_cons (pe_un un_neg pe_int) (pa_cons (pe_un un_neg pe_int) pa_nil)))) (pg_name (i := 3) nd rfl (.inl rfl)) (pss_cons (ps_asg (pe_ix ix_tup (pv 0) (pv 3) (fun _ _ => rfl)) (pg_tup (by rfl) (pgs_cons (pg_name (i := 4) nd rfl (.inl rfl)) (pgs_cons (pg_name (i := 5) nd rfl (.inl rfl)) (pgs_cons (pg_name (i := 6) nd rfl (.inl rfl)) pgs_nil)))))
      (pss_cons (ps_set (i := 7) nd rfl (.inl rfl) (pe_join pe_str (pe_op op_cat (pe_lst (pa_cons (pv 5) pa_nil)) (pe_revL (pe_slice sl_list (pv 2) (po_some (pe_op op_sub (pe_callB call_len (by rfl) T.b_len (by decide +kernel) (pa_cons (pv 2) pa_nil)) (pv 6))) po_none)))))
      (pss_cons (ps_set (i := 2) nd rfl (.inl rfl) (pe_slice sl_list (pv 2) po_none (po_some (pe_op op_sub (pe_callB call_len (by rfl) T.b_len (by decide +kernel) (pa_cons (pv 2) pa_nil)) (pv 6)))))
      (pss_cons (ps_if (pt_cmpR op_gt (pv 4) pe_int (nomark _)) (pss_cons (ps_set (i := 8) nd rfl (.inl rfl) (pe_callTy cr_range2 (by rfl) T.b_range (by decide +kernel) (pa_cons (pe_ix ix_list (pv 1) (pv 3) (fun _ _ => rfl)) (pa_cons (pe_op op_add (pe_ix ix_list (pv 1) (pv 3) (fun _ _ => rfl)) (pv 4)) pa_nil))))
      (pss_one (ps_set (i := 7) nd rfl (.inl rfl) (pe_op op_add_str (pe_op op_add_str (pe_op op_add_str (pe_op op_add_str (pe_globE rfl T.g__BINDER) (pe_join pe_str (pe_lcD (own := [("level", 9)]) (by rfl) nd (pi_rng (pv 8)) (blkOk_by (own := [("level", 9)]) (N := ["nodes", "bounds", "texts", "at", "binders", "head", "many", "text", "levels", "level"]) (sc := (defScope s_text_of_nodes)) (by decide +kernel)) (fun _ _ _ _ _ => pg_name (i := 9) nd rfl (Or.inl rfl)) (fun _ _ _ _ _ => pts_nil) (fun _ _ _ _ _ => (pe_joined (PJ.cons (pe_fmt (pe_globE rfl T.g_VARIABLE)) (PJ.cons (pe_fmt (pv 9)) PJ.nil))))))) (pe_globE rfl T.g__DOT)) pe_str) (pv 7))))) pss_nil)
      (pss_one (ps_expr (pe_bm PySem.F.plainAttrs_list PySem.F.slot_list_append PySem.F.type_list_append mt_append (pv 2) (pa_cons (pe_ifExp (PW.pt (pw_and (pt_cmpR op_gt (pv 3) pe_int (nomark _)) (pw_and1 (PW.pt (pw_or (pt_cmpR op_gt (pv 4) pe_int (nomark _)) (pw_or1 (pt_cmpR op_gt (pv 6) pe_int (nomark _)))))))) (pe_joined (PJ.cons pe_str (PJ.cons (pe_fmt (pv 7)) (PJ.cons pe_str PJ.nil)))) (pv 7)) pa_nil)))))))))
      (pss_one (ps_ret (pe_ix ix_list (pv 2) pe_int (fun _ _ => rfl))))))), ?_⟩
    obtain ⟨small, q⟩ := q
    have tr0 := tr
    obtain ⟨⟨xs, hp, hn⟩, ok, run, few⟩ := tr
    have hlen := hn.len
    rw [List.length_map] at hlen
    refine ⟨.ref p, rfl, p, ms, rfl, tr0, fun bl bs H1 s1 hb lb bb => ?_⟩
    refine asg_go2 ?_
    dsimp only [List.set]
    refine ⟨Nat.zero_le _, fun tl0 htl => asg_go2 ?_⟩
    dsimp only [List.set]
    have s2 := s1.new (o := .lst []) htl
    have hb2 : upd H1 tl0 (.lst []) bl = some (.lst (bs.map V.int)) := (upd_ne (ne_of_none hb htl)).trans hb
    have ht2 : upd H1 tl0 (.lst []) tl0 = some (.lst []) := upd_same
    generalize upd H1 tl0 (.lst []) = G at s2 hb2 ht2 ⊢
    refine ⟨.ref p, rfl, .ref p, ms.length, rfl, .inr ⟨xs, .of (s2 _ _ hp), hlen.symm⟩, ms.length, 1, rfl, rfl, ?_⟩
    refine ⟨1, rfl, 1, rfl, (ms.length : Int) - 1, -1, -1, _, rfl, RgC.neg (by omega) (by omega) (by omega) (by omega), ?_⟩
    rw [show ((ms.length : Int) - 1 - (-1)).toNat = ms.length by omega]
    refine for_rangeC (lo := (ms.length : Int) - 1) (c := -1) (n := ms.length) (fun i σ' H' => (∃ tl ts s3 s4 s5 s6 s7 s8, σ' = [some (.ref p), some (.ref bl), some (.ref tl), s3, s4, s5, s6, s7, s8, none] ∧
      H' tl = some (.lst (ts.map V.str)) ∧ tot ts ≤ 300 * i ∧ (0 < i → ts ≠ [])) ∧ H' bl = some (.lst (bs.map V.int)) ∧ Same H H') ?_ (fun i σ' H' hi hP => ?_) (fun σ' H' hP => ?_)
    · exact ⟨⟨tl0, [], _, _, _, _, _, _, rfl, ht2, by decide, fun h => absurd h (by decide)⟩, hb2, s2⟩
    · obtain ⟨⟨tl, ts, s3, s4, s5, s6, s7, s8, rfl, ht, lt, _⟩, hb', sm⟩ := hP
      have ej : (ms.length : Int) - 1 + (i : Nat) * (-1) = ((ms.length - 1 - i : Nat) : Int) := by omega
      rw [ej]
      generalize hj : ms.length - 1 - i = j at ej
      have jl : j < xs.length := by omega
      have hx : xs[j]? = some xs[j] := List.getElem?_eq_getElem jl
      obtain ⟨b, t, m, em, hdr, q0, ex, hq, lt2, _⟩ := hn.item hx
      rw [ex] at hx
      obtain ⟨⟨b0, b1⟩, m0, m1⟩ := cnt_of ok em
      obtain ⟨k, hk1, hk2, hk3⟩ := cut_parts ts ((ts.length : Int) - m)
      refine asg_go2 ?_
      dsimp only [List.set]
      refine ⟨.ref p, rfl, .int j, rfl, p, _, (j : Int), _, rfl, rfl, .of (sm _ _ hp), atI_nat hx, ?_⟩
      refine ⟨q0, _, rfl, .of (sm _ _ hq), rfl, .int b, _, rfl, asg_go2 ⟨.str t, _, rfl, asg_go2 ⟨.int m, _, rfl, asg_go2 ⟨rfl, ?_⟩⟩⟩⟩
      dsimp only [List.set]
      refine ⟨⟨_, rfl⟩, .str t, rfl, lt_line (by show 1 ≤ 1000000; decide), fun p1 hp1 => ?_⟩
      have sm := sm.new (o := .lst [V.str t]) hp1
      have hb' := (upd_ne (o := .lst [V.str t]) (ne_of_none hb' hp1)).trans hb'
      have ht := (upd_ne (o := .lst [V.str t]) (ne_of_none ht hp1)).trans ht
      have h1 : upd H' p1 (.lst [V.str t]) p1 = some (.lst [V.str t]) := upd_same
      generalize upd H' p1 (.lst [V.str t]) = G1 at sm hb' ht h1 ⊢
      refine ⟨.ref tl, rfl, .ref tl, rfl, .ref tl, ts.length, rfl, .inl ⟨_, SqL.of ht, by rw [List.length_map]⟩, .int m, rfl, (ts.length : Int), m, rfl, rfl, _, rfl, tl, _, rfl, SqL.of ht, fun p2 hp2 => ?_⟩
      rw [hk2]
      have sm := sm.new (o := .lst ((ts.drop k).map V.str)) hp2
      have hb' := (upd_ne (o := .lst ((ts.drop k).map V.str)) (ne_of_none hb' hp2)).trans hb'
      have ht := (upd_ne (o := .lst ((ts.drop k).map V.str)) (ne_of_none ht hp2)).trans ht
      have h1 := (upd_ne (o := .lst ((ts.drop k).map V.str)) (ne_of_none h1 hp2)).trans h1
      have h2 : upd G1 p2 (.lst ((ts.drop k).map V.str)) p2 = some (.lst ((ts.drop k).map V.str)) := upd_same
      generalize upd G1 p2 (.lst ((ts.drop k).map V.str)) = G2 at sm hb' ht h1 h2 ⊢
      refine ⟨p2, _, rfl, SqL.of h2, fun p3 hp3 => ?_⟩
      rw [← List.map_reverse]
      have sm := sm.new (o := .lst ((ts.drop k).reverse.map V.str)) hp3
      have hb' := (upd_ne (o := .lst ((ts.drop k).reverse.map V.str)) (ne_of_none hb' hp3)).trans hb'
      have ht := (upd_ne (o := .lst ((ts.drop k).reverse.map V.str)) (ne_of_none ht hp3)).trans ht
      have h1 := (upd_ne (o := .lst ((ts.drop k).reverse.map V.str)) (ne_of_none h1 hp3)).trans h1
      have h3 : upd G2 p3 (.lst ((ts.drop k).reverse.map V.str)) p3 = some (.lst ((ts.drop k).reverse.map V.str)) := upd_same
      generalize upd G2 p3 (.lst ((ts.drop k).reverse.map V.str)) = G3 at sm hb' ht h1 h3 ⊢
      have tr1 : tot (ts.drop k).reverse = tot (ts.drop k) := tot_reverse _
      have tr2 : ((ts.drop k).reverse.map (·.length)).sum + (ts.drop k).reverse.length = tot (ts.drop k).reverse := rfl
      refine ⟨p1, p3, _, _, rfl, rfl, h1, h3, lt_line (by rw [List.length_map]; show 1 + _ ≤ _; omega), fun p4 hp4 => ?_⟩
      have sm := sm.new (o := .lst ([V.str t] ++ (ts.drop k).reverse.map V.str)) hp4
      have hb' := (upd_ne (o := .lst ([V.str t] ++ (ts.drop k).reverse.map V.str)) (ne_of_none hb' hp4)).trans hb'
      have ht := (upd_ne (o := .lst ([V.str t] ++ (ts.drop k).reverse.map V.str)) (ne_of_none ht hp4)).trans ht
      have h4 : upd G3 p4 (.lst ([V.str t] ++ (ts.drop k).reverse.map V.str)) p4 = some (.lst ([V.str t] ++ (ts.drop k).reverse.map V.str)) := upd_same
      generalize upd G3 p4 (.lst ([V.str t] ++ (ts.drop k).reverse.map V.str)) = G4 at sm hb' ht h4 ⊢
      refine ⟨" ", p4, t :: (ts.drop k).reverse, rfl, rfl, .inl (SqL.of h4), ?_, ?_⟩
      · rw [List.map_cons, List.sum_cons, List.length_cons]
        show t.length + _ + (_ + 1) * 1 ≤ _
        omega
      have lz : (Txt.join " " (t :: (ts.drop k).reverse)).length = t.length + tot (ts.drop k) := by
        rw [join_len, List.map_cons, List.sum_cons, List.length_cons]
        show t.length + _ + (_ + 1 - 1) * 1 = _
        omega
      generalize Txt.join " " (t :: (ts.drop k).reverse) = z at lz ⊢
      refine asg_go2 ?_
      dsimp only [List.set]
      refine ⟨.ref tl, rfl, .ref tl, rfl, .ref tl, ts.length, rfl, .inl ⟨_, SqL.of ht, by rw [List.length_map]⟩, .int m, rfl, (ts.length : Int), m, rfl, rfl, _, rfl, tl, _, rfl, SqL.of ht, fun p5 hp5 => ?_⟩
      rw [hk3]
      have np5 := sm.free hp5
      have nb5 := ne_of_none hb' hp5
      have sm := sm.new (o := .lst ((ts.take k).map V.str)) hp5
      have hb' := (upd_ne (o := .lst ((ts.take k).map V.str)) (ne_of_none hb' hp5)).trans hb'
      have h5 : upd G4 p5 (.lst ((ts.take k).map V.str)) p5 = some (.lst ((ts.take k).map V.str)) := upd_same
      generalize upd G4 p5 (.lst ((ts.take k).map V.str)) = G5 at sm hb' h5 ⊢
      refine asg_go2 ?_
      dsimp only [List.set]
      refine cut_st (fun σ' H' => ∃ z' s9, σ' = [some (.ref p), some (.ref bl), some (.ref p5), some (.int j), some (.int b), some (.str t), some (.int m), some (.str z'), s9, none] ∧ z'.length ≤ z.length + 90 ∧
        H' bl = some (.lst (bs.map V.int)) ∧ H' p5 = some (.lst ((ts.take k).map V.str)) ∧ Same H H') (fun N hN => ?_) (fun σ' H' hP => ?_)
      · refine ⟨.int b, rfl, b, 0, rfl, rfl, _, rfl, ?_⟩
        refine ite2 (fun e1 => ?_) (fun e1 => ?_)
        · have b1' : 0 < b := of_decide_eq_true e1
          have hjb : j < bs.length := by omega
          have hbj : bs[j]? = some bs[j] := List.getElem?_eq_getElem hjb
          generalize bs[j] = bd at hbj
          obtain ⟨d0, d1⟩ := bb bd (List.mem_of_getElem? hbj)
          have hbm : (bs.map V.int)[j]? = some (.int bd) := by
            rw [List.getElem?_map, hbj]
            rfl
          refine ⟨.ref bl, rfl, .int j, rfl, bl, _, (j : Int), .int bd, rfl, rfl, SqL.of hb', atI_nat hbm, .ref bl, rfl, .int j, rfl, bl, _, (j : Int), .int bd, rfl, rfl, SqL.of hb', atI_nat hbm, .int b, rfl, bd, b, rfl, rfl, bd, bd + b, rfl, fun p6 hp6 => asg_go2 ?_⟩
          dsimp only [List.set]
          have sm := sm.new (o := .rng bd (bd + b)) hp6
          have hb' := (upd_ne (o := .rng bd (bd + b)) (ne_of_none hb' hp6)).trans hb'
          have h5 := (upd_ne (o := .rng bd (bd + b)) (ne_of_none h5 hp6)).trans h5
          have h6 : upd G5 p6 (.rng bd (bd + b)) p6 = some (.rng bd (bd + b)) := upd_same
          generalize upd G5 p6 (.rng bd (bd + b)) = G6 at sm hb' h5 h6 ⊢
          refine ⟨⟨_, rfl⟩, .ref p6, rfl, p6, bd, bd + b, rfl, h6, ⟨by omega, by omega, by omega, by omega⟩, fun D hD => ?_⟩
          rw [show (bd + b - bd).toNat = b.toNat by omega]
          have nbD := ne_of_none hb' hD
          have n5D := ne_of_none h5 hD
          have nD := sm.free hD
          refine lc_range (lo := bd) (n := b.toNat) (fun i' H' => (∃ ys : List Str, H' D = some (.lst (ys.map V.str)) ∧ ys.length = i' ∧ (ys.map (·.length)).sum ≤ 4 * i') ∧ H' bl = some (.lst (bs.map V.int)) ∧ H' p5 = some (.lst ((ts.take k).map V.str)) ∧ Same H H') ?_ (fun i' H2 hi2 hP => ?_) (fun H2 hP => ?_)
          · exact ⟨⟨[], upd_same, rfl, Nat.le_refl _⟩, (upd_ne nbD).trans hb', (upd_ne n5D).trans h5, sm.new hD⟩
          · obtain ⟨⟨ys, hy, ly, sy⟩, hb2, h52, sm2⟩ := hP
            refine ⟨rfl, tyes ?_⟩
            have ei : bd + (i' : Int) = ((bd.toNat + i' : Nat) : Int) := by omega
            have li : (toString (bd + (i' : Int)) : Str).length ≤ 3 := by
              rw [ei]
              exact lev_len ⟨bd.toNat + i', by omega⟩
            have lg : (bd + (i' : Int)).natAbs.log2 < 1920 := by
              rw [ei]
              exact log_lev (by omega)
            have lo1 : (Str.empty ++ ("x" : Str)).length = 1 := rfl
            have lo2 : (Str.empty ++ ("x" : Str) ++ (toString (bd + (i' : Int)) : Str)).length ≤ 4 := by
              rw [app_len, lo1]
              omega
            refine .inl ⟨"x", rfl, lt_line (by decide), "x", rfl, lt_line (by decide), .int (bd + i'), rfl, .inr ⟨bd + i', rfl, lg, toString (bd + (i' : Int)), rfl, lt_line (by omega), ?_⟩⟩
            refine ⟨_, hy, lt_line' (by rw [List.length_map]; omega), ⟨ys ++ [Str.empty ++ ("x" : Str) ++ (toString (bd + (i' : Int)) : Str)], ?_, ?_, ?_⟩, (upd_ne nbD).trans hb2, (upd_ne n5D).trans h52, sm2.mut nD⟩
            · rw [upd_same, List.map_append]
              rfl
            · rw [List.length_append, List.length_singleton, ly]
            · rw [List.map_append, List.sum_append]
              show _ + ((Str.empty ++ ("x" : Str) ++ (toString (bd + (i' : Int)) : Str)).length + 0) ≤ _
              omega
          · obtain ⟨⟨ys, hy, ly, sy⟩, hb2, h52, sm2⟩ := hP
            have lj : (Txt.join " " ys).length ≤ 75 := by
              rw [join_len]
              show _ + (ys.length - 1) * 1 ≤ _
              omega
            refine ⟨" ", D, ys, rfl, rfl, .inl (SqL.of hy), ?_, ?_⟩
            · show _ + ys.length * 1 ≤ _
              omega
            have e1 : ("\\" : Str).length = 1 := rfl
            have e2 : ("." : Str).length = 1 := rfl
            have e3 : (" " : Str).length = 1 := rfl
            have u1 := app_len ("\\" : Str) (Txt.join " " ys)
            have u2 := app_len (("\\" : Str) ++ Txt.join " " ys) ("." : Str)
            have u3 := app_len (("\\" : Str) ++ Txt.join " " ys ++ ("." : Str)) (" " : Str)
            have u4 := app_len (("\\" : Str) ++ Txt.join " " ys ++ ("." : Str) ++ (" " : Str)) z
            refine ⟨_, _, rfl, rfl, lt_line (by omega), _, _, rfl, rfl, lt_line (by omega), _, _, rfl, rfl, lt_line (by omega), .str z, rfl, _, _, rfl, rfl, lt_line (by omega), asg_go2 ?_⟩
            exact hN _ _ ⟨_, _, rfl, by omega, hb2, h52, sm2⟩
        · exact hN _ _ ⟨z, _, rfl, by omega, hb', h5, sm⟩
      · obtain ⟨z', s9, rfl, lz', hb', h5, sm⟩ := hP
        refine ⟨.ref p5, rfl, .inl ⟨rfl, _, SqL.of h5⟩, ?_⟩
        have lz3 : z'.length ≤ 13000 := by omega
        refine cut_arg (fun v H2 => ∃ y : Str, v = .str y ∧ y.length ≤ z'.length + 2 ∧ H2 = H') (fun N hN => ?_) (fun v H2 hv => ?_)
        · have plain : N (.str z') H' := hN _ _ ⟨z', rfl, by omega, rfl⟩
          have l1 : (Str.empty ++ ("(" : Str)).length = 1 := rfl
          have l2 := app_len (Str.empty ++ ("(" : Str)) z'
          have l3 := app_len (Str.empty ++ ("(" : Str) ++ z') (")" : Str)
          have l4 : (")" : Str).length = 1 := rfl
          have paren := hN (.str (Str.empty ++ ("(" : Str) ++ z' ++ (")" : Str))) H' ⟨_, rfl, by omega, rfl⟩
          refine ⟨.int j, rfl, (j : Int), 0, rfl, rfl, _, rfl, ?_⟩
          refine ite2 (fun _ => ?_) (fun _ => iteF ⟨.str z', rfl, plain⟩)
          refine ⟨.int b, rfl, b, 0, rfl, rfl, _, rfl, ?_⟩
          refine ite2 (fun _ => iteT ?_) (fun _ => ?_)
          · exact ⟨"(", rfl, lt_line (by omega), .str z', rfl, .inl ⟨z', rfl, lt_line (by omega), z', rfl, lt_line (by omega), ")", rfl, lt_line (by omega), paren⟩⟩
          · refine ⟨.int m, rfl, m, 0, rfl, rfl, _, rfl, ?_⟩
            refine ite2 (fun _ => ?_) (fun _ => ⟨.str z', rfl, plain⟩)
            exact ⟨"(", rfl, lt_line (by omega), .str z', rfl, .inl ⟨z', rfl, lt_line (by omega), z', rfl, lt_line (by omega), ")", rfl, lt_line (by omega), paren⟩⟩
        · obtain ⟨y, rfl, ly, rfl⟩ := hv
          have lk : (ts.take k).length ≤ tot (ts.take k) := Nat.le_add_left _ _
          refine ⟨p5, _, .str y, rfl, rfl, h5, lt_line' (by rw [List.length_map]; omega), ?_⟩
          refine ⟨⟨p5, ts.take k ++ [y], _, _, _, _, _, _, rfl, ?_, ?_, fun _ => by simp⟩, (upd_ne nb5).trans hb', sm.mut np5⟩
          · rw [upd_same, List.map_append]
            rfl
          · rw [tot_append]
            show tot (ts.take k) + (y.length + 0 + 1) ≤ _
            omega
    · obtain ⟨⟨tl, ts, s3, s4, s5, s6, s7, s8, rfl, ht, lt, ne⟩, hb', sm⟩ := hP
      dsimp only
      have pos : 0 < ms.length := by
        cases ms with
        | nil => cases run
        | cons _ _ => exact Nat.succ_pos _
      cases ts with
      | nil => exact absurd rfl (ne pos)
      | cons x r => exact ⟨.ref tl, rfl, tl, _, 0, .str x, rfl, rfl, SqL.of ht, atI_nat (j := 0) rfl, q x H' sm⟩
end


end My
namespace My
open PySem PySem.Spec PyProof.Rows L2 TL
set_option pp.maxSteps 3000
set_option pp.deepTerms false
/-! ### own errors -/
structure ErrT (K : PySem.W.Frag) (mg : Str → Option Value) (x : Str) (C : Addr) : Prop where
  exc : PySem.W.excIn K C [.type "ValueError", .type "Exception", .type "BaseException", .type "object"] "ValueError.__new__" = true
  g : mg x = some (.ref C)
  k : PySem.W.keepIn K (.ref C) = true
  b : PySem.W.subIn K (.ref C) (.type "BaseException") = some true
  t : PySem.W.typeIn K (.ref C) = some (.type "type")

/-! ### a program made of its nodes, or refused -/
def fineN (ns : List N3) : Bool := ((ns.all okN && runN [0] (ns.filterMap id)) && decide (ns.length ≤ 40)) && !((ns.filterMap id).any fun m => decide (m.2.1 = "?"))
def sp_Program_initX (K : PySem.W.Frag) (C CE : Addr) : Sp := fun vs H Q E => ∃ x dx v, vs = [.ref x, v] ∧ H x = some (.ins C dx []) ∧
  ((∃ t, (∀ H', Same H H' → TyX K H' v t) ∧ PySem.W.kitOne K t (.type "tuple") = some false ∧ ∀ H', Same H H' → E (.ref CE) none H') ∨
   ∃ p xs ns, v = .ref p ∧ H p = some (.tup xs) ∧ xs.length ≤ 1000 ∧ NdsV K H xs ns ∧
    (fineN ns = true → ∀ z u w H', (∀ b o, b ≠ x → H b = some o → H' b = some o) → H' x = some (.ins C dx [("_nodes", .ref p), ("_text", z), ("_above", u), ("_parts", w)]) → Q .non H') ∧
    (fineN ns = false → ∀ H', Same H H' → E (.ref CE) none H'))
theorem putF_new (f : Str) (v : V) : ∀ fs : List (Str × V), (∀ g ∈ fs.map (·.1), g ≠ f) → putF f v fs = fs ++ [(f, v)]
  | [], _ => rfl
  | (g, x) :: r, h => by
    unfold putF
    rw [if_neg (h g (List.mem_cons_self ..)), putF_new f v r fun k hk => h k (List.mem_cons_of_mem _ hk)]
    rfl
theorem NdsV.tup {K : PySem.W.Frag} {H H' : Hp} (s : ∀ a xs, H a = some (.tup xs) → H' a = some (.tup xs)) : ∀ {xs : List V} {ms : List (Int × Str × Int)}, NdsV K H xs (ms.map some) → NdsV K H' xs (ms.map some)
  | [], [], _ => trivial
  | [], _ :: _, h => h.elim
  | _ :: _, [], h => h.elim
  | _ :: _, (_, _, _) :: _, ⟨⟨q, e, h, r⟩, t⟩ => ⟨⟨q, e, s _ _ h, r⟩, NdsV.tup s t⟩
theorem TreeV.tup {K : PySem.W.Frag} {H H' : Hp} {p : Addr} {ms : List (Int × Str × Int)} (s : ∀ a xs, H a = some (.tup xs) → H' a = some (.tup xs)) (t : TreeV K H p ms) : TreeV K H' p ms := by
  obtain ⟨⟨xs, hp, hn⟩, o, r, f⟩ := t
  exact ⟨⟨xs, s _ _ hp, hn.tup s⟩, o, r, f⟩
section
variable {P : Program} {w : World} {K : PySem.W.Frag} {mg : Str → Option Value} {base : Heap} {C_Program C_InvalidProgram : Addr}
theorem ok_Program_initX (T : Txt K mg C_Program) (e_InvalidProgram : ErrT K mg "InvalidProgram" C_InvalidProgram) (c_text_of_nodes : CalN P w K mg base "text_of_nodes" 2 ["nodes"] (sp_text_of_nodes K)) (c_places_above : CalN P w K mg base "places_above" 1 ["nodes"] (sp_places_above K)) (c_gaps_of : CalN P w K mg base "gaps_of" 1 ["nodes"] (sp_gaps_of K)) (c_are_nodes : CalN P w K mg base "are_nodes" 4 ["nodes", "bound"] (sp_are_nodes K)) (c_is_word : CalN P w K mg base "is_word" 1 ["value"] (sp_is_word K)) {f : Addr} {fd : FuncData} (F : Fun K "__init__" "Program.__init__" s_Program___init__ f fd) : FnOk P w K mg base (L2.CX P w) 5 f fd ["self", "nodes"] (sp_Program_initX K C_Program C_InvalidProgram) := by
  have nd := sc_Program___init__.nd
  refine F.okX sc_Program___init__ (fun vs H Q E h => ?_) (fun cdv A outer s H vs Q E hr h => ?_)
  · obtain ⟨x, dx, v, rfl, _⟩ := h
    rfl
  · obtain ⟨x, dx, v, rfl, hx, h⟩ := h
    refine ⟨_, (pss_cons (ps_if (PW.pt (pw_or (pt_not (pt_val (pe_callN c_are_nodes (hr.mono (by first | decide | omega)) rfl (pa_cons (pv 1) (pa_cons pe_int pa_nil))))) (pw_or (pt_cmpR op_gt (pe_callB call_len (by rfl) T.b_len (by decide +kernel) (pa_cons (pv 1) pa_nil)) (pe_globE rfl T.g_MAX_NODES) (nomark _)) (pw_or1 (pt_truth (pe_callN c_gaps_of (hr.mono (by first | decide | omega)) rfl (pa_cons (pv 1) pa_nil)) (by intro _; rfl)))))) (pss_one (ps_raise rfl (takes_of rfl rfl rfl rfl) (pmk_own PySem.F.excBase_ValueError e_InvalidProgram.exc e_InvalidProgram.g e_InvalidProgram.k (raises_own e_InvalidProgram.b e_InvalidProgram.t) rfl))) pss_nil)
      (pss_cons (ps_fld (pv 0) (pv 1) rfl)
      (pss_cons (ps_fld (pv 0) (pe_callN c_text_of_nodes (hr.mono (by first | decide | omega)) rfl (pa_cons (pv 1) pa_nil)) rfl)
      (pss_cons (ps_fld (pv 0) (pe_callN c_places_above (hr.mono (by first | decide | omega)) rfl (pa_cons (pv 1) pa_nil)) rfl)
      (pss_one (ps_fld (pv 0) (pe_callTy call_tuple_of (by rfl) T.b_tuple (by decide +kernel) (pa_cons (pe_callB (cr_sortS rfl) (by rfl) T.b_sorted (by decide +kernel) (pa_cons (pe_callTy (cr_setE rfl) (by rfl) T.b_set (by decide +kernel) (pa_cons (pe_lcD (own := [("_", 2), ("head", 3), ("_", 2)]) (by rfl) nd (pi_tup (pv 1)) (blkOk_by (own := [("_", 2), ("head", 3), ("_", 2)]) (N := ["self", "nodes", "_", "head"]) (sc := (defScope s_Program___init__)) (by decide +kernel)) (fun _ _ _ _ _ => pg_tup (by rfl) (pgs_cons (pg_name (i := 2) nd rfl (Or.inl rfl)) (pgs_cons (pg_name (i := 3) nd rfl (Or.inl rfl)) (pgs_cons (pg_name (i := 2) nd rfl (Or.inl rfl)) pgs_nil)))) (fun _ _ _ _ _ => pts_one (pt_val (pe_callN c_is_word (hr.mono (by first | decide | omega)) rfl (pa_cons (pv 3) pa_nil)))) (fun _ _ _ _ _ => (pv 3))) pa_nil)) pa_nil)) pa_nil)) rfl)))))), ?_⟩
    rcases h with ⟨t, ht, hk, qE⟩ | ⟨p, xs, ns, rfl, hp, few, hn, q, qE⟩
    · exact ⟨v, rfl, v, 0, rfl, .inl ⟨t, ht _ (Same.refl H), hk, fun H1 s1 => ⟨false, rfl, iteT (iteT (qE H1 s1))⟩⟩⟩
    · have hlen := hn.len
      refine ⟨.ref p, rfl, .ref p, 0, rfl, .inr ⟨p, xs, ns, rfl, hp, few, hn, fun H1 s1 => ⟨_, rfl, ?_⟩⟩⟩
      cases ea : (ns.all okN && runN [0] (ns.filterMap id)) with
      | false =>
        refine iteT (iteT (qE ?_ H1 s1))
        unfold fineN
        rw [ea]
        rfl
      | true =>
      refine iteF ?_
      refine ⟨.ref p, rfl, .ref p, ns.length, rfl, .inr ⟨xs, .of (s1 _ _ hp), hlen.symm⟩, (ns.length : Int), 40, rfl, rfl, _, rfl, ?_⟩
      refine ite2 (fun e1 => ?_) (fun e1 => ?_)
      · have e1' := of_decide_eq_true e1
        refine iteT (qE ?_ H1 s1)
        unfold fineN
        rw [decide_eq_false (show ¬ ns.length ≤ 40 by omega), Bool.and_false, Bool.false_and]
      have e1' : ns.length ≤ 40 := by
        by_cases z : ns.length ≤ 40
        · exact z
        · exact absurd (decide_eq_true (show (40 : Int) < (ns.length : Int) by omega)) e1
      obtain ⟨eo, er⟩ := Bool.and_eq_true_iff.mp ea
      have ens := all_some eo
      have ef : fineN ns = !((ns.filterMap id).any fun m => decide (m.2.1 = "?")) := by
        unfold fineN
        rw [ea, decide_eq_true e1', Bool.true_and, Bool.true_and]
      rw [ef] at q qE
      generalize ns.filterMap id = ms at ens er q qE
      subst ens
      rw [List.length_map] at e1' hlen
      have tr : TreeV K H1 p ms := ⟨⟨xs, s1 _ _ hp, hn.same s1⟩, by rw [List.all_map] at eo; exact eo, er, by omega⟩
      refine ⟨.ref p, rfl, p, ms, rfl, tr, fun g rs H2 s2 hg eg => ?_⟩
      refine ⟨_, .inr (.inl ⟨rs, .of hg, rfl⟩), ?_⟩
      rw [eg]
      cases eg2 : ms.any fun m => decide (m.2.1 = "?") with
      | true => exact iteT (qE (by rw [eg2]; rfl) H2 (s1.trans s2))
      | false =>
      refine iteF ?_
      refine nx_go ?_
      dsimp only
      have q := q (by rw [eg2]; rfl)
      have s12 := s1.trans s2
      have tr2 := tr.tup fun a ys h => s2 _ _ h
      have hx2 := s12 _ _ hx
      have o2 : ∀ b o, b ≠ x → H b = some o → H2 b = some o := fun b o _ h => s12 b o h
      refine ⟨.ref p, rfl, .ref x, rfl, x, C_Program, dx, _, rfl, hx2, T.k_Program, T.x_Program.n_nodes, by decide, ?_⟩
      rw [show putF "_nodes" (V.ref p) [] = [(("_nodes" : Str), V.ref p)] from rfl]
      have o3 : ∀ b o, b ≠ x → H b = some o → upd H2 x (.ins C_Program dx [("_nodes", .ref p)]) b = some o := fun b o n h => by
        rw [upd_ne n]
        exact o2 b o n h
      have tr3 : TreeV K (upd H2 x (.ins C_Program dx [("_nodes", .ref p)])) p ms := tr2.tup fun a ys h => by
        rw [upd_ne (ne_of h hx2 (fun z => nomatch z))]
        exact h
      have hx3 : upd H2 x (.ins C_Program dx [("_nodes", .ref p)]) x = some (.ins C_Program dx [("_nodes", .ref p)]) := upd_same
      generalize upd H2 x (.ins C_Program dx [("_nodes", .ref p)]) = G3 at o3 tr3 hx3 ⊢
      refine ⟨.ref p, rfl, p, ms, rfl, tr3, e1', fun z H4 s4 => ?_⟩
      have tr4 := tr3.tup fun a ys h => s4 _ _ h
      have hx4 := s4 _ _ hx3
      have o4 : ∀ b o, b ≠ x → H b = some o → H4 b = some o := fun b o n h => s4 _ _ (o3 b o n h)
      refine ⟨.ref x, rfl, x, C_Program, dx, _, rfl, hx4, T.k_Program, T.x_Program.n_text, by show 1 < 1000; decide, ?_⟩
      rw [putF_new "_text" (V.str z) [(("_nodes" : Str), V.ref p)] (show ∀ g ∈ (["_nodes"] : List Str), g ≠ "_text" by decide +kernel), List.cons_append, List.nil_append]
      have o5 : ∀ b o, b ≠ x → H b = some o → upd H4 x (.ins C_Program dx [("_nodes", .ref p), ("_text", .str z)]) b = some o := fun b o n h => by
        rw [upd_ne n]
        exact o4 b o n h
      have tr5 : TreeV K (upd H4 x (.ins C_Program dx [("_nodes", .ref p), ("_text", .str z)])) p ms := tr4.tup fun a ys h => by
        rw [upd_ne (ne_of h hx4 (fun z => nomatch z))]
        exact h
      have hx5 : upd H4 x (.ins C_Program dx [("_nodes", .ref p), ("_text", .str z)]) x = some (.ins C_Program dx [("_nodes", .ref p), ("_text", .str z)]) := upd_same
      generalize upd H4 x (.ins C_Program dx [("_nodes", .ref p), ("_text", .str z)]) = G5 at o5 tr5 hx5 ⊢
      refine ⟨.ref p, rfl, p, ms, rfl, tr5, fun ab H6 s6 => ?_⟩
      have tr6 := tr5.tup fun a ys h => s6 _ _ h
      have hx6 := s6 _ _ hx5
      have o6 : ∀ b o, b ≠ x → H b = some o → H6 b = some o := fun b o n h => s6 _ _ (o5 b o n h)
      refine ⟨.ref x, rfl, x, C_Program, dx, _, rfl, hx6, T.k_Program, T.x_Program.n_above, by show 2 < 1000; decide, ?_⟩
      rw [putF_new "_above" (V.ref ab) [(("_nodes" : Str), V.ref p), ("_text", V.str z)] (show ∀ g ∈ (["_nodes", "_text"] : List Str), g ≠ "_above" by decide +kernel), List.cons_append, List.cons_append, List.nil_append]
      have o7 : ∀ b o, b ≠ x → H b = some o → upd H6 x (.ins C_Program dx [("_nodes", .ref p), ("_text", .str z), ("_above", .ref ab)]) b = some o := fun b o n h => by
        rw [upd_ne n]
        exact o6 b o n h
      have tr7 : TreeV K (upd H6 x (.ins C_Program dx [("_nodes", .ref p), ("_text", .str z), ("_above", .ref ab)])) p ms := tr6.tup fun a ys h => by
        rw [upd_ne (ne_of h hx6 (fun z => nomatch z))]
        exact h
      have hx7 : upd H6 x (.ins C_Program dx [("_nodes", .ref p), ("_text", .str z), ("_above", .ref ab)]) x = some (.ins C_Program dx [("_nodes", .ref p), ("_text", .str z), ("_above", .ref ab)]) := upd_same
      generalize upd H6 x (.ins C_Program dx [("_nodes", .ref p), ("_text", .str z), ("_above", .ref ab)]) = G7 at o7 tr7 hx7 ⊢
      obtain ⟨⟨xs7, hp7, hn7⟩, _, _, _⟩ := tr7
      have hlen7 := hn7.len
      rw [List.length_map] at hlen7
      refine ⟨.ref p, rfl, p, rfl, ⟨xs7, SqT.of hp7⟩, fun D hD => lc_tup (xs := xs7) (fun i H' => (∃ ks : List Str, H' D = some (.lst (ks.map V.str)) ∧ ks.length ≤ i) ∧ Same G7 H') ?_ (fun i H1 _ hP => SqT.of (hP.2 _ _ hp7)) (fun i y H8 hy hP => ?_) (fun H8 hP => ?_)⟩
      · exact ⟨⟨[], upd_same, Nat.le_refl _⟩, (Same.refl G7).mut hD⟩
      · obtain ⟨⟨ks, hk, lk⟩, s8⟩ := hP
        obtain ⟨b, t, m, em, hdr, q0, rfl, hq, lt2, ha⟩ := hn7.item hy
        have hi := lt_of_get em
        refine ⟨q0, _, rfl, .of (s8 _ _ hq), rfl, _, _, rfl, asg_go2 ⟨_, _, rfl, asg_go2 ⟨_, _, rfl, asg_go2 ⟨rfl, ?_⟩⟩⟩⟩
        refine ⟨rfl, ?_⟩
        refine ⟨.str t, rfl, .str t, rfl, .inl ⟨t, rfl, by omega, ha⟩, fun H9 s9 => ⟨isW (.str t), rfl, ?_⟩⟩
        refine ite2 (fun _ => ?_) (fun _ => ?_)
        · exact ⟨.str t, rfl, _, s9 _ _ hk, lt_line' (by rw [List.length_map]; omega), ⟨ks ++ [t], by rw [upd_same, List.map_append]; rfl, by rw [List.length_append, List.length_singleton]; omega⟩, (s8.trans s9).mut hD⟩
        · exact ⟨⟨ks, s9 _ _ hk, by omega⟩, s8.trans s9⟩
      · obtain ⟨⟨ks, hk, lk⟩, s8⟩ := hP
        refine ⟨D, ks, rfl, .inr (SqL.of hk), by omega, fun a L ha lL mem => ?_⟩
        refine ⟨a, L, rfl, upd_same, by omega, fun ys r _ _ _ hr => ?_⟩
        refine ⟨r, _, rfl, .inl ⟨SqL.of upd_same, fun l hl => ?_⟩⟩
        have sE := ((s8.new (o := SetSO P w a L) ha).new (o := .lst (ys.map V.str)) hr).new (o := .tup (ys.map V.str)) hl
        have hx8 := sE _ _ hx7
        refine ⟨.ref x, rfl, x, C_Program, dx, _, rfl, hx8, T.k_Program, T.x_Program.n_parts, by show 3 < 1000; decide, ?_⟩
        rw [putF_new "_parts" (V.ref l) [(("_nodes" : Str), V.ref p), ("_text", V.str z), ("_above", V.ref ab)] (show ∀ g ∈ (["_nodes", "_text", "_above"] : List Str), g ≠ "_parts" by decide +kernel), List.cons_append, List.cons_append, List.cons_append, List.nil_append]
        exact q _ _ _ _ (fun b o n h => by rw [upd_ne n]; exact sE _ _ (o7 b o n h)) upd_same
end


end My
namespace My
open PySem PySem.Spec PyProof.Rows L2 TL
set_option pp.maxSteps 3000
set_option pp.deepTerms false
/-! ### the law's own look at nodes, and the program's -/
def headsF (n : Int) : List Str := (["f", "g", "cons"] : List Str) ++ (List.range n.toNat).map fun j => ("x" : Str) ++ (toString ((j : Nat) : Int) : Str)
/-- the law's look: rows of how many are bound and how many are left, the last one first -/
def goF : List (Int × Int) → List N3 → Bool
  | rows, [] => rows.isEmpty
  | _, none :: _ => false
  | [], some _ :: _ => false
  | (d, l) :: R, some (b, h, m) :: r =>
    if (isCnt b && isCnt m) && decide (h ∈ headsF (d + b)) then goF ((if m > 0 then [(d + b, m)] else []) ++ ((if l > 1 then [(d, l - 1)] else []) ++ R)) r else false
def flatR (rows : List (Int × Int)) : List Int := rows.flatMap fun p => List.replicate p.2.toNat p.1
def tb : List N3 → Int
  | [] => 0
  | some (b, _, _) :: r => (if isCnt b then b else 0) + tb r
  | none :: r => tb r
theorem tb_nonneg : ∀ ns : List N3, 0 ≤ tb ns
  | [] => Int.le_refl _
  | some (b, h, m) :: r => by
    have := tb_nonneg r
    show 0 ≤ (if isCnt b then b else 0) + tb r
    split
    · rename_i h1
      have := of_decide_eq_true (Bool.and_eq_true_iff.mp h1).1
      omega
    · omega
  | none :: r => tb_nonneg r
def HeadOK (h : Str) : Prop := isW (.str h) = true → h ∈ (["f", "g", "cons"] : List Str)
theorem x_is : ∀ j : Fin 100, isV (.str (("x" : Str) ++ (toString ((j.val : Nat) : Int) : Str))) = true ∧ lev (("x" : Str) ++ (toString ((j.val : Nat) : Int) : Str)) = j.val := by decide +kernel
theorem one_x : ∀ a : Fin 10, (⟨#[120, 48 + a.val]⟩ : Str) = ("x" : Str) ++ (toString ((a.val : Nat) : Int) : Str) := by decide +kernel
theorem two_x : ∀ a b : Fin 10, a.val ≠ 0 → (⟨#[120, 48 + a.val, 48 + b.val]⟩ : Str) = ("x" : Str) ++ (toString ((10 * a.val + b.val : Nat) : Int) : Str) := by decide +kernel
theorem x_of {h : Str} (v : isV (.str h) = true) : h = ("x" : Str) ++ (toString ((lev h : Nat) : Int) : Str) ∧ lev h < 100 := by
  have hl : isL h.cps.toList = true := v
  have e : h = ⟨h.cps.toList.toArray⟩ := rfl
  have l2 := (lev_read hl).2.1
  refine ⟨?_, l2⟩
  unfold lev
  obtain ⟨r, er, hr, ha⟩ := isL_cases hl
  rw [er] at hl ⊢
  rw [er] at e
  match r, hr, ha, hl, e with
  | [a], _, ha, _, e =>
    have ha : dig a = true := by simpa using ha
    obtain ⟨a', rfl⟩ := dig_fin ha
    rw [e, show levL [120, 48 + a'.val] = a'.val by show 48 + a'.val - 48 = _; omega]
    exact one_x a'
  | [a, b], _, h2, hl, e =>
    obtain ⟨ha, hb⟩ : dig a = true ∧ dig b = true := by simpa using h2
    obtain ⟨a', rfl⟩ := dig_fin ha
    obtain ⟨b', rfl⟩ := dig_fin hb
    have n0 : a'.val ≠ 0 := fun z => by
      have hl : ((dig (48 + a'.val) && dig (48 + b'.val)) && !decide (48 + a'.val = 48)) = true := hl
      rw [z, decide_eq_true (by rfl), Bool.not_true, Bool.and_false] at hl
      cases hl
    rw [e, show levL [120, 48 + a'.val, 48 + b'.val] = 10 * a'.val + b'.val by show 10 * (48 + a'.val - 48) + (48 + b'.val - 48) = _; omega]
    exact two_x a' b' n0
theorem fgc_ok : (["f", "g", "cons"] : List Str).all (fun h => isW (.str h) && !decide (h = "?")) = true := by decide +kernel
theorem x_not : ∀ j : Fin 100, (("x" : Str) ++ (toString ((j.val : Nat) : Int) : Str)) ≠ "?" := by decide +kernel
/-- which heads the law takes -/
theorem heads_eq {h : Str} {n : Int} (ok : HeadOK h) (n1 : n ≤ 100) : decide (h ∈ headsF n) = (isW (.str h) || (isV (.str h) && decide ((lev h : Int) < n))) := by
  refine Bool.eq_iff_iff.mpr ⟨fun m => ?_, fun m => ?_⟩
  · have m := of_decide_eq_true m
    unfold headsF at m
    rcases List.mem_append.mp m with m | m
    · rw [(Bool.and_eq_true_iff.mp (List.all_eq_true.mp fgc_ok h m)).1]
      rfl
    · obtain ⟨j, hj, rfl⟩ := List.mem_map.mp m
      have hj := List.mem_range.mp hj
      obtain ⟨e1, e2⟩ := x_is ⟨j, by omega⟩
      rw [e1, e2, decide_eq_true (show ((j : Nat) : Int) < n by omega)]
      exact Bool.or_true _
  · refine decide_eq_true ?_
    unfold headsF
    rcases Bool.or_eq_true_iff.mp m with m | m
    · exact List.mem_append_left _ (ok m)
    · obtain ⟨v, l⟩ := Bool.and_eq_true_iff.mp m
      have l := of_decide_eq_true l
      exact List.mem_append_right _ (List.mem_map.mpr ⟨lev h, List.mem_range.mpr (by omega), (x_of v).1.symm⟩)
theorem heads_gap {h : Str} {n : Int} (n1 : n ≤ 100) (m : h ∈ headsF n) : h ≠ "?" := by
  unfold headsF at m
  rcases List.mem_append.mp m with m | m
  · intro e
    have q := (Bool.and_eq_true_iff.mp (List.all_eq_true.mp fgc_ok h m)).2
    rw [decide_eq_true e] at q
    cases q
  · obtain ⟨j, hj, rfl⟩ := List.mem_map.mp m
    have hj := List.mem_range.mp hj
    exact x_not ⟨j, by omega⟩
def goN (D : List Int) (ns : List N3) : Bool := (ns.all okN && runN D (ns.filterMap id)) && !((ns.filterMap id).any fun m => decide (m.2.1 = "?"))
theorem goN_bad {D : List Int} {n : N3} {r : List N3} (h : okN n = false) : goN D (n :: r) = false := by
  unfold goN
  rw [List.all_cons, h]
  rfl
theorem goN_eq : ∀ (ns : List N3) (rows : List (Int × Int)), (∀ p ∈ rows, 0 ≤ p.1 ∧ 1 ≤ p.2 ∧ p.1 + tb ns ≤ 100) → (∀ b h m, some (b, h, m) ∈ ns → HeadOK h) → goN (flatR rows) ns = goF rows ns
  | [], rows, hr, _ => by
    cases rows with
    | nil => rfl
    | cons p R =>
      obtain ⟨d, l⟩ := p
      have := (hr _ List.mem_cons_self).2.1
      have e : flatR ((d, l) :: R) = d :: (List.replicate (l - 1).toNat d ++ flatR R) := by
        show List.replicate l.toNat d ++ flatR R = _
        rw [show l.toNat = (l - 1).toNat + 1 by simp at this; omega, List.replicate_succ, List.cons_append]
      rw [e]
      rfl
  | none :: r, rows, _, _ => by
    rw [goN_bad rfl]
    cases rows <;> rfl
  | some (b, h, m) :: r, [], _, _ => by
    unfold goN
    rw [show runN (flatR []) ((some (b, h, m) :: r).filterMap id) = false from rfl, Bool.and_false]
    rfl
  | some (b, h, m) :: r, (d, l) :: R, hr, hh => by
    have eF : goF ((d, l) :: R) (some (b, h, m) :: r) = if (isCnt b && isCnt m) && decide (h ∈ headsF (d + b)) then goF ((if m > 0 then [(d + b, m)] else []) ++ ((if l > 1 then [(d, l - 1)] else []) ++ R)) r else false := rfl
    have et : tb (some (b, h, m) :: r) = (if isCnt b then b else 0) + tb r := rfl
    have okh := hh b h m List.mem_cons_self
    have tr := tb_nonneg r
    obtain ⟨d0, l1, dt⟩ := hr _ List.mem_cons_self
    have d0 : 0 ≤ d := d0
    have l1 : 1 ≤ l := l1
    have dt : d + tb (some (b, h, m) :: r) ≤ 100 := dt
    have okU : okN (some (b, h, m)) = ((isCnt b && isCnt m) && ((isW (.str h) || isV (.str h)) || (decide (h = "?") && decide (m = 0)))) := rfl
    rw [eF]
    cases cb : isCnt b with
    | false => exact goN_bad (by rw [okU, cb]; rfl)
    | true =>
    cases cm : isCnt m with
    | false => exact goN_bad (by rw [okU, cm, Bool.and_false]; rfl)
    | true =>
    rw [et, cb] at dt
    have dt : d + (b + tb r) ≤ 100 := dt
    have b0 := of_decide_eq_true (Bool.and_eq_true_iff.mp cb).1
    have m0 := of_decide_eq_true (Bool.and_eq_true_iff.mp cm).1
    have hd := heads_eq (n := d + b) okh (by omega)
    have okE : okN (some (b, h, m)) = ((isW (.str h) || isV (.str h)) || (decide (h = "?") && decide (m = 0))) := by
      rw [okU, cb, cm]
      rfl
    have eD : flatR ((d, l) :: R) = d :: (List.replicate (l - 1).toNat d ++ flatR R) := by
      show List.replicate l.toNat d ++ flatR R = _
      rw [show l.toNat = (l - 1).toNat + 1 by omega, List.replicate_succ, List.cons_append]
    have eN : runN (flatR ((d, l) :: R)) ((some (b, h, m) :: r).filterMap id) = if (decide (d + b > 100) || (isV (.str h) && decide ((lev h : Int) ≥ d + b))) = true then false else runN (List.replicate m.toNat (d + b) ++ (List.replicate (l - 1).toNat d ++ flatR R)) (r.filterMap id) := by
      rw [eD]
      rfl
    rw [decide_eq_false (show ¬ d + b > 100 by omega), Bool.false_or] at eN
    have eR : List.replicate m.toNat (d + b) ++ (List.replicate (l - 1).toNat d ++ flatR R) = flatR ((if m > 0 then [(d + b, m)] else []) ++ ((if l > 1 then [(d, l - 1)] else []) ++ R)) := by
      unfold flatR
      rw [List.flatMap_append, List.flatMap_append]
      congr 1
      · split
        · simp
        · rw [show m.toNat = 0 by omega]
          rfl
      · congr 1
        split
        · simp
        · rw [show (l - 1).toNat = 0 by omega]
          rfl
    cases hm : decide (h ∈ headsF (d + b)) with
    | true =>
      rw [hm] at hd
      have ng := heads_gap (by omega) (of_decide_eq_true hm)
      have ok1 : okN (some (b, h, m)) = true := by
        rw [okE]
        rcases Bool.or_eq_true_iff.mp hd.symm with z | z
        · rw [z]
          rfl
        · rw [(Bool.and_eq_true_iff.mp z).1, Bool.or_true]
          rfl
      have nb : (isV (.str h) && decide ((lev h : Int) ≥ d + b)) = false := by
        rcases Bool.or_eq_true_iff.mp hd.symm with z | z
        · cases ev : isV (.str h) with
          | false => rfl
          | true =>
            exfalso
            have f := okh z
            have : ∀ y ∈ (["f", "g", "cons"] : List Str), isV (.str y) = false := by decide +kernel
            rw [this h f] at ev
            cases ev
        · have l := of_decide_eq_true (Bool.and_eq_true_iff.mp z).2
          rw [decide_eq_false (by omega), Bool.and_false]
      rw [nb] at eN
      have ih := goN_eq r ((if m > 0 then [(d + b, m)] else []) ++ ((if l > 1 then [(d, l - 1)] else []) ++ R)) (fun p hp => ?_) (fun b h m k => hh b h m (List.mem_cons_of_mem _ k))
      · show goN _ _ = goF _ _
        rw [← ih]
        unfold goN
        rw [List.all_cons, ok1, Bool.true_and, eN, eR]
        have ea : ((some (b, h, m) :: r).filterMap id).any (fun m => decide (m.2.1 = "?")) = (r.filterMap id).any (fun m => decide (m.2.1 = "?")) := by
          show (decide (h = "?") || _) = _
          rw [decide_eq_false ng, Bool.false_or]
        rw [ea]
        rfl
      · rcases List.mem_append.mp hp with hp | hp
        · split at hp
          · rw [List.mem_singleton.mp hp]
            exact ⟨by show 0 ≤ d + b; omega, by show 1 ≤ m; omega, by show d + b + tb r ≤ 100; omega⟩
          · cases hp
        · rcases List.mem_append.mp hp with hp | hp
          · split at hp
            · rw [List.mem_singleton.mp hp]
              exact ⟨d0, by show 1 ≤ l - 1; omega, by show d + tb r ≤ 100; omega⟩
            · cases hp
          · obtain ⟨p0, p1, p2⟩ := hr p (List.mem_cons_of_mem _ hp)
            rw [et, cb] at p2
            have p2 : p.1 + (b + tb r) ≤ 100 := p2
            exact ⟨p0, p1, by omega⟩
    | false =>
      rw [hm] at hd
      obtain ⟨hw, hv⟩ := Bool.or_eq_false_iff.mp hd.symm
      show _ = false
      cases ev : isV (.str h) with
      | true =>
        rw [ev, Bool.true_and] at hv
        have := of_decide_eq_false hv
        rw [ev, decide_eq_true (show (lev h : Int) ≥ d + b by omega)] at eN
        unfold goN
        rw [eN, show (if (true && true) = true then false else runN (List.replicate m.toNat (d + b) ++ (List.replicate (l - 1).toNat d ++ flatR R)) (r.filterMap id)) = false from rfl, Bool.and_false]
        rfl
      | false =>
        by_cases g : h = "?"
        · unfold goN
          have ea : ((some (b, h, m) :: r).filterMap id).any (fun m => decide (m.2.1 = "?")) = true := by
            show (decide (h = "?") || _) = _
            rw [decide_eq_true g]
            rfl
          rw [ea]
          exact Bool.and_false _
        · exact goN_bad (by rw [okE, hw, ev, decide_eq_false g]; rfl)


end My
namespace My
open PySem PySem.Spec PyProof.Rows L2 TL
set_option pp.maxSteps 3000
set_option pp.deepTerms false
section
variable {P : Program} {w : World} {K : PySem.W.Frag} {mg : Str → Option Value} {base : Heap} {C_Program C_InvalidProgram : Addr}
theorem exm_self {K : PySem.W.Frag} {mg : Str → Option Value} {x : Str} {C : Addr} (e : ErrT K mg x C) : PySem.W.exmOne K (.ref C) (.ref C) = some true := by
  have q := e.exc
  unfold PySem.W.excIn at q
  split at q
  · rename_i cd sl hk
    split at q
    · rename_i C2 bm _ _ _ _ _ _ hm _
      simp only [Bool.and_eq_true] at q
      have e1 : C2 = C := beq_iff_eq.mp q.1.1.1.1.1
      have hc : PySem.W.clsIn K C = some cd := by
        unfold PySem.W.clsIn
        rw [hk]
      have sub : PySem.W.subIn K (.ref C) (.ref C) = some true := by
        show (PySem.W.clsIn K C).bind (fun cd => if cd.mro.isEmpty then none else some (cd.mro.contains (.ref C))) = some true
        rw [hc, Option.bind_some, hm, e1]
        simp
      unfold PySem.W.exmOne
      rw [if_pos (by rw [e.b]; rfl)]
      show (if ((PySem.W.clsIn K C).isSome && PySem.W.typeIn K (.ref C) == some (.type "type")) = true then PySem.W.subIn K (.ref C) (.ref C) else none) = some true
      rw [if_pos (by rw [hc, e.t]; rfl), sub]
    · cases q
  · cases q

/-! ### >> that may be too large -/
structure MakX (P : Program) (w : World) (K : PySem.W.Frag) (mg : Str → Option Value) (base : Heap) (C : Addr) (k : Nat) (ps : List Str) (sp : Sp) : Prop where
  ex : ∃ f fd, FnOk P w K mg base (L2.CX P w) k f fd ps sp ∧ Mk K C f ∧ Binds K fd ps []
section
variable {X : Cx} {x : Str} {k : Nat} {ps : List Str} {sp : Sp} {e : Expr} {es : List Expr} {t : TA} {p pos : Pos} {C : Addr} {E : XK}
/-- what leaves the making leaves the def -/
theorem pe_makeX (c : MakX X.prog X.w X.K X.mg X.base C k ps sp) (room : Room (k + 1) X.A) (hg : Gl X x) (hm : X.mg x = some (.ref C)) (pass : Passes (L2.CX X.prog X.w) X E) (ha : PA X (e :: es) t) (hdb : (x == ("__debug__" : Str)) = false := by decide)
    (he : starEach (e :: es) X.env = (false, eval e X.env) :: starEach es X.env := by rfl) (hpl : (backTo pos (starEach es X.env)).any (·.1) = false := by rfl) :
    PE X (.Call (.Name x p) (e :: es) [] pos) (tMake C sp [] E t) := by
  obtain ⟨f, fd, ok, M, hb⟩ := c.ex
  exact pe_make M ok room hg hm hb .nil pass ha hdb he hpl
end

/-! ### the law: what a program is made of -/
def dataN : N3 → PyData
  | some (b, h, m) => .tuple [.int b, .str h, .int m]
  | none => .none
theorem dp_nodes {K : PySem.W.Frag} {H : Hp} : ∀ {xs : List V} {ms : List (Int × Str × Int)}, NdsV K H xs (ms.map some) → DpAll K H xs ((ms.map some).map dataN)
  | [], [], _ => .nil
  | [], _ :: _, h => h.elim
  | _ :: _, [], h => h.elim
  | _ :: _, (_, _, _) :: _, ⟨⟨q, e, h, _⟩, t⟩ => by
    subst e
    exact .cons (.tup (SqT.of h) (.cons (.int _) (.cons (.str _) (.cons (.int _) .nil)))) (dp_nodes t)
theorem lay_nodes {K : PySem.W.Frag} {H : Hp} : ∀ {xs : List V} {ms : List (Int × Str × Int)}, NdsV K H xs (ms.map some) → PyData.canLayAll0 ((ms.map some).map dataN) = true ∧ PyData.depthAll ((ms.map some).map dataN) ≤ 1
  | [], [], _ => ⟨rfl, Nat.zero_le _⟩
  | [], _ :: _, h => h.elim
  | _ :: _, [], h => h.elim
  | _ :: _, (b, x, m) :: ms, ⟨⟨q, e, h, _, ha⟩, t⟩ => by
    obtain ⟨h1, h2⟩ := lay_nodes t
    have hs : PyData.strOk x = true := by
      unfold PyData.strOk
      rw [← Array.all_toList]
      exact List.all_eq_true.mpr fun c hc => decide_eq_true (Nat.lt_trans (ha c hc) (by decide))
    refine ⟨?_, ?_⟩
    · show PyData.canLayAll0 (.tuple [.int b, .str x, .int m] :: (ms.map some).map dataN) = true
      rw [PyData.canLayAll0, h1, PyData.canLay0, PyData.canLayAll0, PyData.canLayAll0, PyData.canLayAll0, PyData.canLayAll0, PyData.canLay0, PyData.canLay0, PyData.canLay0, hs]
      rfl
    · show PyData.depthAll (.tuple [.int b, .str x, .int m] :: (ms.map some).map dataN) ≤ 1
      rw [PyData.depthAll, PyData.depth, PyData.depthAll, PyData.depthAll, PyData.depthAll, PyData.depthAll, PyData.depth, PyData.depth, PyData.depth]
      omega
def sp__law_is_taken (K : PySem.W.Frag) : Sp := fun vs H Q _ => ∃ v, vs = [v] ∧
  ((∃ t, (∀ H', Same H H' → TyX K H' v t) ∧ PySem.W.kitOne K t (.type "tuple") = some false ∧ ∀ H', Same H H' → Q (.bl false) H') ∨
   ∃ p xs ns, v = .ref p ∧ H p = some (.tup xs) ∧ xs.length ≤ 1000 ∧ NdsV K H xs ns ∧ ∀ H', Same H H' → Q (.bl (fineN ns)) H')
theorem ok__law_is_taken (T : Txt K mg C_Program) (e_InvalidProgram : ErrT K mg "InvalidProgram" C_InvalidProgram) (p_Program_nodes : PrpC P w K mg base C_Program "nodes" 1 ["self"] (getSp C_Program "_nodes")) (i_Program___init__X : MakX P w K mg base C_Program 5 ["self", "nodes"] (sp_Program_initX K C_Program C_InvalidProgram)) {f : Addr} {fd : FuncData} (F : Fun K "_law_is_taken" "_law_is_taken" s__law_is_taken f fd) : FnOkG P w K mg base CX0 7 f fd ["_law_value"] (sp__law_is_taken K) := by
  have nd := sc__law_is_taken.nd
  refine F.okG sc__law_is_taken (fun vs H Q E h => ?_) (fun cdv A outer s H vs Q E hr hG h => ?_)
  · obtain ⟨v, rfl, _⟩ := h
    rfl
  · obtain ⟨v, rfl, h⟩ := h
    refine ⟨_, pss_one (ps_try_only (c := .ref C_InvalidProgram) (tb := fun W => tRet (tOp (rEqD K) (tProp C_Program (getSp C_Program "_nodes") [] E0 (tMake C_Program (sp_Program_initX K C_Program C_InvalidProgram) [] (fun cls d H => ∀ σ, W cls d σ H) (tCons (tVar 0) tNil))) (tVar 0))) rfl rfl ⟨rfl, by decide, .inl e_InvalidProgram.g⟩ takes0
      (fun W pn xe tk _ => pss_one (ps_ret (pe_cmpR (op_eqD hr.units) (pe_propC p_Program_nodes T.k_Program (hr.mono (by first | decide | omega)) (pe_makeX (E := fun cls d H => ∀ σ, W cls d σ H) i_Program___init__X (hr.mono (by first | decide | omega)) rfl T.c_Program (passes_call tk fun _ _ σ _ h => h σ) (pa_cons (pv 0) pa_nil))) (pv 0) (nomark _))))
      (fun a oe cls d pn _ _ => pss_one (ps_ret pe_bl))), ?_⟩
    refine ⟨v, rfl, fun x dx hx hdx nxd => ?_⟩
    have s0 : Same H (upd H dx (.own x)) := (Same.refl H).new hdx
    have s1 : Same H (upd (upd H dx (.own x)) x (.ins C_Program dx [])) := s0.new ((upd_ne (Ne.symm nxd)).trans hx)
    have hx1 : upd (upd H dx (.own x)) x (.ins C_Program dx []) x = some (.ins C_Program dx []) := upd_same
    generalize upd (upd H dx (.own x)) x (.ins C_Program dx []) = G at s1 hx1 ⊢
    have bad : ∀ H', Same G H' → Q (.bl false) H' → ∀ σ, wOnly K (.ref C_InvalidProgram) (fun a cls d => tRet (tC (.bl false))) (fun _ _ _ _ => False) { nx := fun _ H' => Q .non H', rt := Q } (.ref C_InvalidProgram) none σ H' := by
      intro H' s2 z σ
      exact ⟨true, exm_self e_InvalidProgram, fun _ a _ => z, fun q => nomatch q⟩
    refine ⟨x, dx, v, rfl, hx1, ?_⟩
    rcases h with ⟨t, ht, hk, q⟩ | ⟨p, xs, ns, rfl, hp, few, hn, q⟩
    · exact .inl ⟨t, fun H' s2 => ht H' (s1.trans s2), hk, fun H' s2 => bad H' s2 (q H' (s1.trans s2))⟩
    · refine .inr ⟨p, xs, ns, rfl, s1 _ _ hp, few, hn.same s1, fun ef z u w2 H' keep hx2 => ?_, fun ef H' s2 => bad H' s2 (by have z := q H' (s1.trans s2); rw [ef] at z; exact z)⟩
      have s3 : Same H H' := fun b o hb => keep b o (fun e => by rw [e, hx] at hb; cases hb) (s1 b o hb)
      refine ⟨rfl, ?_⟩
      refine ⟨x, dx, _, rfl, hx2, ?_⟩
      have z := q H' s3
      rw [ef] at z
      have eo : ns.all okN = true := (Bool.and_eq_true_iff.mp (Bool.and_eq_true_iff.mp (Bool.and_eq_true_iff.mp ef).1).1).1
      have ens := all_some eo
      generalize ns.filterMap id = ms at ens
      subst ens
      have hn2 := hn.same s3
      obtain ⟨l1, l2⟩ := lay_nodes hn2
      have dp : Dp K H' (.ref p) (.tuple ((ms.map some).map dataN)) := .tup (SqT.of (s3 _ _ hp)) (dp_nodes hn2)
      have cl : (PyData.tuple ((ms.map some).map dataN)).canLay0 = true := by
        rw [PyData.canLay0]
        exact l1
      have sh : SeqAt.shaped (.tuple ((ms.map some).map dataN)) = true := by
        unfold SeqAt.shaped
        rw [cl, Bool.true_and, PyData.depth]
        exact decide_eq_true (by omega)
      refine ⟨x, dx, _, .ref p, rfl, hx2, rfl, ?_⟩
      refine ⟨.ref p, rfl, _, _, dp, dp, sh, sh, ?_⟩
      rw [PySem.SeqAt.eqv_refl _ cl]
      exact z

end

end My
namespace My
open PySem PySem.Spec PyProof.Rows L2 TL
set_option pp.maxSteps 3000
set_option pp.deepTerms false
/-! ### the law's own look -/
def fineF (ns : List N3) : Bool := (decide (1 ≤ ns.length) && decide (ns.length ≤ 40)) && goF [(0, 1)] ns
def sp__law_is_fine (K : PySem.W.Frag) : Sp := fun vs H Q _ => ∃ v, vs = [v] ∧
  ((∃ t, (∀ H', Same H H' → TyX K H' v t) ∧ PySem.W.kitOne K t (.type "tuple") = some false ∧ ∀ H', Same H H' → Q (.bl false) H') ∨
   ∃ p xs ns, v = .ref p ∧ H p = some (.tup xs) ∧ xs.length ≤ 1000 ∧ NdsV K H xs ns ∧ tb ns ≤ 100 ∧ ∀ H', Same H H' → Q (.bl (fineF ns)) H')
/-- the rows in a list O, the last one first -/
def RowsV (O : Addr) (H : Hp) : List (Int × Int) → List V → Prop
  | [], os => os = []
  | (d, l) :: R, os => ∃ os' q, os = os' ++ [.ref q] ∧ q ≠ O ∧ H q = some (.lst [.int d, .int l]) ∧ RowsV O H R os'
theorem RowsV.keep {O : Addr} {H H' : Hp} (e : ∀ a o, a ≠ O → H a = some o → H' a = some o) : ∀ {rows : List (Int × Int)} {os : List V}, RowsV O H rows os → RowsV O H' rows os
  | [], _, h => h
  | (_, _) :: _, _, ⟨os', q, e1, n, h, r⟩ => ⟨os', q, e1, n, e _ _ n h, RowsV.keep e r⟩
theorem RowsV.len {O : Addr} {H : Hp} : ∀ {rows : List (Int × Int)} {os : List V}, RowsV O H rows os → os.length = rows.length
  | [], _, h => by rw [show _ = [] from h]; rfl
  | (_, _) :: _, _, ⟨os', q, e1, n, h, r⟩ => by rw [e1, List.length_append, RowsV.len r]; rfl
def rowD (p : Int × Int) : PyData := .list [.int p.1, .int p.2]
theorem dp_snoc {K : PySem.W.Frag} {H : Hp} {v : V} {d : PyData} (h : Dp K H v d) : ∀ {vs : List V} {ds : List PyData}, DpAll K H vs ds → DpAll K H (vs ++ [v]) (ds ++ [d])
  | _, _, .nil => .cons h .nil
  | _, _, .cons a r => .cons a (dp_snoc h r)
theorem RowsV.dp {K : PySem.W.Frag} {O : Addr} {H : Hp} : ∀ {rows : List (Int × Int)} {os : List V}, RowsV O H rows os → DpAll K H os (rows.reverse.map rowD)
  | [], _, h => by rw [show _ = [] from h]; exact .nil
  | (d, l) :: R, _, ⟨os', q, e1, n, h, r⟩ => by
    rw [e1, List.reverse_cons, List.map_append]
    exact dp_snoc (.lst (SqL.of h) (.cons (.int _) (.cons (.int _) .nil))) r.dp
theorem lay_rows : ∀ rows : List (Int × Int), PyData.canLayAll0 (rows.map rowD) = true ∧ PyData.depthAll (rows.map rowD) ≤ 1
  | [] => ⟨rfl, Nat.zero_le _⟩
  | (d, l) :: R => by
    obtain ⟨h1, h2⟩ := lay_rows R
    refine ⟨?_, ?_⟩
    · show PyData.canLayAll0 (.list [.int d, .int l] :: R.map rowD) = true
      rw [PyData.canLayAll0, h1, PyData.canLay0, PyData.canLayAll0, PyData.canLayAll0, PyData.canLayAll0, PyData.canLay0, PyData.canLay0]
      rfl
    · show PyData.depthAll (.list [.int d, .int l] :: R.map rowD) ≤ 1
      rw [PyData.depthAll, PyData.depth, PyData.depthAll, PyData.depthAll, PyData.depthAll, PyData.depth, PyData.depth]
      omega
theorem shaped_rows (rows : List (Int × Int)) : SeqAt.shaped (.list (rows.map rowD)) = true := by
  obtain ⟨h1, h2⟩ := lay_rows rows
  unfold SeqAt.shaped
  rw [PyData.canLay0, h1, Bool.true_and, PyData.depth]
  exact decide_eq_true (by omega)
theorem eqv_nil (rows : List (Int × Int)) : PyData.eqv (.list (rows.reverse.map rowD)) (.list []) = rows.isEmpty := by
  cases h : rows.reverse with
  | nil =>
    rw [List.reverse_eq_nil_iff.mp h]
    rfl
  | cons p r =>
    cases rows with
    | nil => cases h
    | cons a b =>
      show PyData.eqv (.list (rowD p :: r.map rowD)) (.list []) = false
      simp [PyData.eqv, PyData.eqvAll]
theorem inV_strs {a : Str} {ys : List Str} : inV (.str a) (ys.map V.str) = decide (a ∈ ys) := by
  unfold inV
  rw [List.any_map, Bool.eq_iff_iff, List.any_eq_true, decide_eq_true_iff]
  constructor
  · rintro ⟨y, h1, h2⟩
    have : y = a := by simpa [eqV] using h2
    rw [← this]
    exact h1
  · intro h
    exact ⟨a, h, by simp [eqV]⟩
theorem inV_rg (i : Int) : inV (.int i) (rgV 0 16) = isCnt i := by
  unfold isCnt
  have e : rgV 0 16 = (List.range 16).map fun j => V.int ((j : Nat) : Int) := by decide +kernel
  rw [e]
  have no : ¬ (0 ≤ i ∧ i ≤ 15) → inV (.int i) ((List.range 16).map fun j => V.int ((j : Nat) : Int)) = false := fun h => by
    unfold inV
    refine List.any_eq_false.mpr fun y hy z => ?_
    obtain ⟨j, hj, rfl⟩ := List.mem_map.mp hy
    have hj := List.mem_range.mp hj
    have z : ((j : Nat) : Int) = i := by simpa [eqV] using z
    omega
  by_cases h0 : 0 ≤ i
  · by_cases h1 : i ≤ 15
    · obtain ⟨j, rfl⟩ := Int.eq_ofNat_of_zero_le h0
      have : ∀ j : Fin 16, inV (.int ((j.val : Nat) : Int)) ((List.range 16).map fun j => V.int ((j : Nat) : Int)) = true := by decide +kernel
      rw [this ⟨j, by omega⟩, decide_eq_true h0, decide_eq_true h1]
      rfl
    · rw [decide_eq_false h1, Bool.and_false]
      exact no fun z => h1 z.2
  · rw [decide_eq_false h0, Bool.false_and]
    exact no fun z => h0 z.1
section
variable {P : Program} {w : World} {K : PySem.W.Frag} {mg : Str → Option Value} {base : Heap}
theorem ok__law_is_fine (T : Txt K mg C_Program) {f : Addr} {fd : FuncData} (F : Fun K "_law_is_fine" "_law_is_fine" s__law_is_fine f fd) : FnOkG P w K mg base CX0 1 f fd ["_law_value"] (sp__law_is_fine K) := by
  have nd := sc__law_is_fine.nd
  refine F.okG sc__law_is_fine (fun vs H Q E h => ?_) (fun cdv A outer s H vs Q E hr hG h => ?_)
  · obtain ⟨v, rfl, _⟩ := h
    rfl
  · obtain ⟨v, rfl, hv⟩ := h
    refine ⟨_, (pss_cons (ps_if (PW.pt (pw_or (pt_not (pt_val (pe_callB call_isi (by rfl) T.b_isinstance (by decide +kernel) (pa_cons (pv 0) (pa_cons (pe_bltn (v := .ty "tuple") (u := .type "tuple") (by rfl) T.b_tuple (by decide +kernel) rfl) pa_nil))))) (pw_or1 (pt_not (pt_chain op_le op_le pe_int (pe_callB call_len (by rfl) T.b_len (by decide +kernel) (pa_cons (pv 0) pa_nil)) pe_int))))) (pss_one (ps_ret pe_bl)) pss_nil)
      (pss_cons (ps_set (i := 1) nd rfl (.inl rfl) (pe_lst (pa_cons (pe_lst (pa_cons pe_int (pa_cons pe_int pa_nil))) pa_nil)))
      (pss_cons (ps_for PassesOwn.never rfl (pi_tup (pv 0)) (pg_name (i := 2) nd rfl (.inl rfl)) (pss_cons (ps_if (PW.pt (pw_or (pt_not (pt_val (pe_callB call_isi (by rfl) T.b_isinstance (by decide +kernel) (pa_cons (pv 2) (pa_cons (pe_bltn (v := .ty "tuple") (u := .type "tuple") (by rfl) T.b_tuple (by decide +kernel) rfl) pa_nil))))) (pw_or (pt_cmpR op_ne (pe_callB call_len (by rfl) T.b_len (by decide +kernel) (pa_cons (pv 2) pa_nil)) pe_int (nomark _)) (pw_or1 (pt_cmpR (op_eqD hr.units) (pv 1) (pe_lst pa_nil) (nomark _)))))) (pss_one (ps_ret pe_bl)) pss_nil)
      (pss_cons (ps_if (PW.pt (pw_or (pt_val (pe_callB call_isi (by rfl) T.b_isinstance (by decide +kernel) (pa_cons (pe_ix ix_tup (pv 2) pe_int (fun _ _ => rfl)) (pa_cons (pe_bltn (v := .ty "bool") (u := .type "bool") (by rfl) T.b_bool (by decide +kernel) rfl) pa_nil)))) (pw_or (pt_val (pe_callB call_isi (by rfl) T.b_isinstance (by decide +kernel) (pa_cons (pe_ix ix_tup (pv 2) pe_int (fun _ _ => rfl)) (pa_cons (pe_bltn (v := .ty "bool") (u := .type "bool") (by rfl) T.b_bool (by decide +kernel) rfl) pa_nil)))) (pw_or1 (pt_not (pt_val (pe_callB call_isi (by rfl) T.b_isinstance (by decide +kernel) (pa_cons (pe_ix ix_tup (pv 2) pe_int (fun _ _ => rfl)) (pa_cons (pe_bltn (v := .ty "str") (u := .type "str") (by rfl) T.b_str (by decide +kernel) rfl) pa_nil))))))))) (pss_one (ps_ret pe_bl)) pss_nil)
      (pss_cons (ps_if (PW.pt (pw_or (pt_cmpR op_notIn_seq (pe_ix ix_tup (pv 2) pe_int (fun _ _ => rfl)) (pe_listRg rfl (by rfl) T.b_list (prg_1 (by rfl) T.b_range pe_int)) (by rfl)) (pw_or1 (pt_cmpR op_notIn_seq (pe_ix ix_tup (pv 2) pe_int (fun _ _ => rfl)) (pe_listRg rfl (by rfl) T.b_list (prg_1 (by rfl) T.b_range pe_int)) (by rfl))))) (pss_one (ps_ret pe_bl)) pss_nil)
      (pss_cons (ps_asg (pe_bm0 PySem.F.plainAttrs_list PySem.F.slot_list_pop PySem.F.type_list_pop mt_pop (pv 1)) (pg_lst (by rfl) (pgs_cons (pg_name (i := 3) nd rfl (.inl rfl)) (pgs_cons (pg_name (i := 4) nd rfl (.inl rfl)) pgs_nil))))
      (pss_cons (ps_if (pt_cmpR op_gt (pv 4) pe_int (nomark _)) (pss_one (ps_expr (pe_bm PySem.F.plainAttrs_list PySem.F.slot_list_append PySem.F.type_list_append mt_append (pv 1) (pa_cons (pe_lst (pa_cons (pv 3) (pa_cons (pe_op op_sub (pv 4) pe_int) pa_nil))) pa_nil)))) pss_nil)
      (pss_cons (ps_set (i := 5) nd rfl (.inl rfl) (pe_op op_add (pv 3) (pe_ix ix_tup (pv 2) pe_int (fun _ _ => rfl))))
      (pss_cons (ps_if (pt_cmpR op_notIn_seq (pe_ix ix_tup (pv 2) pe_int (fun _ _ => rfl)) (pe_op op_cat (pe_lst (pa_cons pe_str (pa_cons pe_str (pa_cons pe_str pa_nil)))) (pe_lcD (own := [("_law_at", 6)]) (by rfl) nd (pi_range1 (by rfl) T.b_range (pa_cons (pv 5) pa_nil)) (blkOk_by (own := [("_law_at", 6)]) (N := ["_law_value", "_law_open_rows", "_law_node", "_law_bound", "_law_left", "_law_inner", "_law_at"]) (sc := (defScope s__law_is_fine)) (by decide +kernel)) (fun _ _ _ _ _ => pg_name (i := 6) nd rfl (Or.inl rfl)) (fun _ _ _ _ _ => pts_nil) (fun _ _ _ _ _ => (pe_op op_add_str pe_str (pe_callTy call_str_int (by rfl) T.b_str (by decide +kernel) (pa_cons (pv 6) pa_nil)))))) (by rfl)) (pss_one (ps_ret pe_bl)) pss_nil)
      (pss_one (ps_if (pt_cmpR op_gt (pe_ix ix_tup (pv 2) pe_int (fun _ _ => rfl)) pe_int (nomark _)) (pss_one (ps_expr (pe_bm PySem.F.plainAttrs_list PySem.F.slot_list_append PySem.F.type_list_append mt_append (pv 1) (pa_cons (pe_lst (pa_cons (pv 5) (pa_cons (pe_ix ix_tup (pv 2) pe_int (fun _ _ => rfl)) pa_nil))) pa_nil)))) pss_nil))))))))))
      (pss_one (ps_ret (pe_cmpR (op_eqD hr.units) (pv 1) (pe_lst pa_nil) (nomark _))))))), ?_⟩
    rcases hv with ⟨t, ht, hk, q⟩ | ⟨p, xs, ns, rfl, hp, few, hn, tbn, q⟩
    · exact ⟨v, rfl, v, .ty "tuple", t, .type "tuple", false, rfl, .ty _, ht _ (Same.refl H), hk, false, rfl, iteT (iteT (q H (Same.refl H)))⟩
    · have hlen := hn.len
      refine ⟨.ref p, rfl, .ref p, .ty "tuple", .type "tuple", .type "tuple", true, rfl, .ty _, .base (.tup hp), kit_ty (by decide +kernel), true, rfl, iteF ?_⟩
      have ef : fineF ns = ((decide (1 ≤ ns.length) && decide (ns.length ≤ 40)) && goF [(0, 1)] ns) := rfl
      rw [ef] at q
      refine ⟨.ref p, rfl, .ref p, ns.length, rfl, .inr ⟨xs, .of hp, hlen.symm⟩, 1, (ns.length : Int), rfl, rfl, _, rfl, ?_⟩
      by_cases h1 : 1 ≤ ns.length
      rotate_left
      · rw [decide_eq_false h1, Bool.false_and, Bool.false_and] at q
        rw [decide_eq_false (show ¬ (1 : Int) ≤ (ns.length : Int) by omega)]
        exact iteF ⟨false, rfl, iteT (q H (Same.refl H))⟩
      rw [decide_eq_true (show (1 : Int) ≤ (ns.length : Int) by omega)]
      refine iteT ?_
      by_cases h40 : ns.length ≤ 40
      rotate_left
      · rw [decide_eq_false h40, Bool.and_false, Bool.false_and] at q
        exact ⟨(ns.length : Int), 40, rfl, rfl, false, congrArg V.bl (decide_eq_false (by omega)), iteT (q H (Same.refl H))⟩
      rw [decide_eq_true h1, decide_eq_true h40, Bool.true_and, Bool.true_and] at q
      refine ⟨(ns.length : Int), 40, rfl, rfl, true, congrArg V.bl (decide_eq_true (by omega)), iteF ?_⟩
      refine nx_go ?_
      dsimp only
      refine ⟨lt_line (by show 2 ≤ 1000000; decide), fun r0 hr0 => ⟨lt_line (by show 1 ≤ 1000000; decide), fun O hO => ?_⟩⟩
      refine asg_go2 ?_
      dsimp only [List.set]
      have s1 : Same H (upd H r0 (.lst [.int 0, .int 1])) := (Same.refl H).new hr0
      have s2 := s1.new (o := .lst [V.ref r0]) hO
      have nO := s1.free hO
      have n0 : r0 ≠ O := ne_of_none upd_same hO
      have hr : upd (upd H r0 (.lst [.int 0, .int 1])) O (.lst [V.ref r0]) r0 = some (.lst [.int 0, .int 1]) := (upd_ne n0).trans upd_same
      have ho : upd (upd H r0 (.lst [.int 0, .int 1])) O (.lst [V.ref r0]) O = some (.lst [V.ref r0]) := upd_same
      generalize upd (upd H r0 (.lst [.int 0, .int 1])) O (.lst [V.ref r0]) = G at s2 hr ho ⊢
      refine ⟨.ref p, rfl, p, rfl, ⟨xs, SqT.of (s2 _ _ hp)⟩, for_tup (xs := xs) (fun i σ' H' => (∃ s2 s3 s4 s5, σ' = [some (.ref p), some (.ref O), s2, s3, s4, s5, none]) ∧
        (∃ os rows, H' O = some (.lst os) ∧ RowsV O H' rows os ∧ rows.length ≤ 1 + 2 * i ∧ (∀ p ∈ rows, 0 ≤ p.1 ∧ 1 ≤ p.2 ∧ p.1 + tb (ns.drop i) ≤ 100) ∧ goF [(0, 1)] ns = goF rows (ns.drop i)) ∧ Same H H') ?_ (fun i σ' H' _ hP => SqT.of (hP.2.2 _ _ hp)) (fun i x σ' H' hx hP => ?_) (fun σ' H' hP => ?_)⟩
      · refine ⟨⟨_, _, _, _, rfl⟩, ⟨_, [(0, 1)], ho, ⟨[], r0, rfl, n0, hr, rfl⟩, Nat.le_refl _, fun y hy => ?_, rfl⟩, s2⟩
        rw [List.mem_singleton.mp hy]
        exact ⟨Int.le_refl _, Int.le_refl _, by show 0 + tb ns ≤ 100; omega⟩
      · obtain ⟨⟨s3, s4, s5, s6, rfl⟩, ⟨os, rows, ho, hr, lr, br, er⟩, sm⟩ := hP
        obtain ⟨n, en, hv⟩ := hn.get hx
        have hv := hv.same sm
        have hdr : ns.drop i = n :: ns.drop (i + 1) := by
          have hi := lt_of_get en
          rw [List.drop_eq_getElem_cons hi]
          exact congrArg (· :: _) (Option.some.inj ((List.getElem?_eq_getElem hi).symm.trans en))
        rw [hdr] at br er
        have hi := lt_of_get en
        refine asg_go2 ?_
        dsimp only [List.set]
        have no : ∀ H2, Same H' H2 → goF rows (n :: ns.drop (i + 1)) = false → Q (.bl false) H2 := fun H2 s7 e => by
          have z := q H2 (sm.trans s7)
          rw [er, e] at z
          exact z
        have three : V.bl (!decide (V.int ((3 : Nat) : Int) = V.int 3)) = V.bl false := congrArg (fun b => V.bl (!b)) (decide_eq_true rfl)
        have kind : (n = none ∧ ((∃ t, (∀ H2, Same H' H2 → TyX K H2 x t) ∧ PySem.W.kitOne K t (.type "tuple") = some false) ∨ ∃ q xs, x = .ref q ∧ H' q = some (.tup xs) ∧ xs.length ≠ 3)) ∨
            ∃ q0 v0 v1 v2, x = .ref q0 ∧ H' q0 = some (.tup [v0, v1, v2]) ∧ ((n = none ∧ ∃ y i j, v0 = .str y ∧ v1 = .int i ∧ v2 = .int j) ∨ (n = none ∧ ∃ b, v0 = .bl b) ∨ ∃ b h m, n = some (b, h, m) ∧ v0 = .int b ∧ v1 = .str h ∧ v2 = .int m ∧ h.length ≤ 100 ∧ ∀ c ∈ h.cps.toList, c < 128) := by
          rcases n with _ | ⟨b, h, m⟩
          · rcases hv with h | ⟨q, xs, e, h, l, _⟩ | ⟨q, y, i, j, e, h, _⟩ | ⟨q, b, h, m, e, hq⟩
            · exact .inl ⟨rfl, .inl h⟩
            · exact .inl ⟨rfl, .inr ⟨q, xs, e, h, l⟩⟩
            · exact .inr ⟨q, _, _, _, e, h, .inl ⟨rfl, y, i, j, rfl, rfl, rfl⟩⟩
            · exact .inr ⟨q, _, _, _, e, hq, .inr (.inl ⟨rfl, b, rfl⟩)⟩
          · obtain ⟨q, e, hq, l, a⟩ := hv
            exact .inr ⟨q, _, _, _, e, hq, .inr (.inr ⟨b, h, m, rfl, rfl, rfl, rfl, l, a⟩)⟩
        clear hv
        rcases kind with ⟨rfl, ⟨t, ht, hk⟩ | ⟨q0, ys, rfl, hq, l3⟩⟩ | ⟨q0, v0, v1, v2, rfl, hq, kd⟩
        · exact ⟨x, rfl, x, .ty "tuple", t, .type "tuple", false, rfl, .ty _, ht _ (Same.refl H'), hk, false, rfl, iteT (iteT (no H' (Same.refl H') (by cases rows <;> rfl)))⟩
        · refine ⟨.ref q0, rfl, .ref q0, .ty "tuple", .type "tuple", .type "tuple", true, rfl, .ty _, .base (.tup hq), kit_ty (by decide +kernel), true, rfl, iteF ?_⟩
          refine ⟨.ref q0, rfl, .ref q0, ys.length, rfl, .inr ⟨ys, .of hq, rfl⟩, rfl, true, ?_, iteT (iteT (no H' (Same.refl H') (by cases rows <;> rfl)))⟩
          exact congrArg (fun b => V.bl (!b)) (decide_eq_false fun e => l3 (Int.ofNat.inj (V.int.inj e)))
        refine ⟨.ref q0, rfl, .ref q0, .ty "tuple", .type "tuple", .type "tuple", true, rfl, .ty _, .base (.tup hq), kit_ty (by decide +kernel), true, rfl, iteF ?_⟩
        refine ⟨.ref q0, rfl, .ref q0, 3, rfl, .inr ⟨_, .of hq, rfl⟩, rfl, false, three, iteF ?_⟩
        refine ⟨.ref O, rfl, Nat.zero_le _, fun e0 he0 => ?_⟩
        have sn := (Same.refl H').new (o := .lst []) he0
        have ho := sn _ _ ho
        have hq := sn _ _ hq
        have hr := hr.keep fun a o _ h => sn a o h
        refine ⟨_, _, .lst (SqL.of ho) hr.dp, .lst (SqL.of upd_same) .nil, shaped_rows _, by decide, rows.isEmpty, congrArg V.bl (eqv_nil rows), ?_⟩
        generalize upd H' e0 (.lst []) = G1 at sn ho hq hr ⊢
        cases rows with
        | nil => exact iteT (no G1 sn (by cases n <;> rfl))
        | cons p0 R =>
        obtain ⟨d, l⟩ := p0
        refine iteF ?_
        refine nx_go ?_
        dsimp only
        rcases kd with ⟨rfl, y, i2, j2, rfl, rfl, rfl⟩ | ⟨rfl, b, rfl⟩ | ⟨b, h, m, rfl, rfl, rfl, rfl, lh, ah⟩
        · refine ⟨.ref q0, rfl, q0, _, 0, .str y, rfl, rfl, .of hq, atI_nat (j := 0) rfl, .str y, .ty "bool", .type "str", .type "bool", false, rfl, .ty _, .base (.str y), kit_ty (by decide +kernel), false, rfl, iteF ?_⟩
          refine ⟨.ref q0, rfl, q0, _, 2, .int j2, rfl, rfl, .of hq, atI_nat (j := 2) rfl, .int j2, .ty "bool", .type "int", .type "bool", false, rfl, .ty _, .base (.int j2), kit_ty (by decide +kernel), false, rfl, iteF ?_⟩
          exact ⟨.ref q0, rfl, q0, _, 1, .int i2, rfl, rfl, .of hq, atI_nat (j := 1) rfl, .int i2, .ty "str", .type "int", .type "str", false, rfl, .ty _, .base (.int i2), kit_ty (by decide +kernel), false, rfl, iteT (no G1 sn rfl)⟩
        · exact ⟨.ref q0, rfl, q0, _, 0, .bl b, rfl, rfl, .of hq, atI_nat (j := 0) rfl, .bl b, .ty "bool", .type "bool", .type "bool", true, rfl, .ty _, .base (.bl b), kit_ty (by decide +kernel), true, rfl, iteT (iteT (no G1 sn rfl))⟩
        refine ⟨.ref q0, rfl, q0, _, 0, .int b, rfl, rfl, .of hq, atI_nat (j := 0) rfl, .int b, .ty "bool", .type "int", .type "bool", false, rfl, .ty _, .base (.int b), kit_ty (by decide +kernel), false, rfl, iteF ?_⟩
        refine ⟨.ref q0, rfl, q0, _, 2, .int m, rfl, rfl, .of hq, atI_nat (j := 2) rfl, .int m, .ty "bool", .type "int", .type "bool", false, rfl, .ty _, .base (.int m), kit_ty (by decide +kernel), false, rfl, iteF ?_⟩
        refine ⟨.ref q0, rfl, q0, _, 1, .str h, rfl, rfl, .of hq, atI_nat (j := 1) rfl, .str h, .ty "str", .type "str", .type "str", true, rfl, .ty _, .base (.str h), kit_ty (by decide +kernel), true, rfl, iteF ?_⟩
        refine nx_go ?_
        dsimp only
        have eg : goF ((d, l) :: R) (some (b, h, m) :: ns.drop (i + 1)) = if (isCnt b && isCnt m) && decide (h ∈ headsF (d + b)) then goF ((if m > 0 then [(d + b, m)] else []) ++ ((if l > 1 then [(d, l - 1)] else []) ++ R)) (ns.drop (i + 1)) else false := rfl
        refine ⟨.ref q0, rfl, q0, _, 0, .int b, rfl, rfl, .of hq, atI_nat (j := 0) rfl, 16, rfl, .of_le (by decide) (by decide) (by decide) (by decide), fun l1 hl1 => ?_⟩
        have sn := sn.new (o := .lst (rgV 0 16)) hl1
        have ho := (upd_ne (o := .lst (rgV 0 16)) (ne_of_none ho hl1)).trans ho
        have hq := (upd_ne (o := .lst (rgV 0 16)) (ne_of_none hq hl1)).trans hq
        have hr := hr.keep fun a o _ h => (upd_ne (o := .lst (rgV 0 16)) (ne_of_none h hl1)).trans h
        refine ⟨l1, _, rfl, .inl (SqL.of upd_same), rfl, by decide +kernel, !isCnt b, congrArg (fun c => V.bl (!c)) (inV_rg b), ?_⟩
        generalize upd G1 l1 (.lst (rgV 0 16)) = G2 at sn ho hq hr ⊢
        cases cb : isCnt b with
        | false => exact iteT (iteT (no G2 sn (by rw [eg, cb]; rfl)))
        | true =>
        refine iteF ?_
        refine ⟨.ref q0, rfl, q0, _, 2, .int m, rfl, rfl, .of hq, atI_nat (j := 2) rfl, 16, rfl, .of_le (by decide) (by decide) (by decide) (by decide), fun l2 hl2 => ?_⟩
        have sn := sn.new (o := .lst (rgV 0 16)) hl2
        have ho := (upd_ne (o := .lst (rgV 0 16)) (ne_of_none ho hl2)).trans ho
        have hq := (upd_ne (o := .lst (rgV 0 16)) (ne_of_none hq hl2)).trans hq
        have hr := hr.keep fun a o _ h => (upd_ne (o := .lst (rgV 0 16)) (ne_of_none h hl2)).trans h
        refine ⟨l2, _, rfl, .inl (SqL.of upd_same), rfl, by decide +kernel, !isCnt m, congrArg (fun c => V.bl (!c)) (inV_rg m), ?_⟩
        generalize upd G2 l2 (.lst (rgV 0 16)) = G3 at sn ho hq hr ⊢
        cases cm : isCnt m with
        | false => exact iteT (no G3 sn (by rw [eg, cm, Bool.and_false]; rfl))
        | true =>
        refine iteF ?_
        refine nx_go ?_
        dsimp only
        obtain ⟨os', r1, rfl, n1, hr1, hR⟩ := hr
        obtain ⟨d0, l0, dt⟩ := br _ List.mem_cons_self
        have d0 : 0 ≤ d := d0
        have l0 : 1 ≤ l := l0
        have tr0 := tb_nonneg (ns.drop (i + 1))
        have dt : d + ((if isCnt b then b else 0) + tb (ns.drop (i + 1))) ≤ 100 := dt
        rw [cb, if_pos rfl] at dt
        have b0 := of_decide_eq_true (Bool.and_eq_true_iff.mp cb).1
        have b1 := of_decide_eq_true (Bool.and_eq_true_iff.mp cb).2
        have m0 := of_decide_eq_true (Bool.and_eq_true_iff.mp cm).1
        have m1 := of_decide_eq_true (Bool.and_eq_true_iff.mp cm).2
        have lR : R.length + 1 ≤ 1 + 2 * i := lr
        have lo := hR.len
        rw [cb, cm, Bool.and_self, Bool.true_and] at eg
        refine ⟨.ref O, rfl, .inl ⟨rfl, _, SqL.of ho⟩, O, _, .ref r1, rfl, rfl, ho, ?_, ?_⟩
        · rw [List.length_append, List.length_singleton, Nat.add_sub_cancel, List.getElem?_concat_length]
        rw [List.dropLast_concat]
        have sK := (sm.trans sn).mut (o := .lst os') nO
        have hq := (upd_ne (H := G3) (o := .lst os') (ne_of hq ho (fun z => nomatch z))).trans hq
        have hr1 := (upd_ne (H := G3) (o := .lst os') n1).trans hr1
        have hR := hR.keep fun a o n h => (upd_ne (H := G3) (o := .lst os') n).trans h
        have ho : upd G3 O (.lst os') O = some (.lst os') := upd_same
        generalize upd G3 O (.lst os') = G4 at sK hq hr1 hR ho ⊢
        refine ⟨r1, _, rfl, .of hr1, rfl, .int d, _, rfl, asg_go2 ⟨.int l, _, rfl, asg_go2 ⟨rfl, ?_⟩⟩⟩
        dsimp only [List.set]
        refine cut_st (fun σ' H2 => σ' = [some (.ref p), some (.ref O), some (.ref q0), some (.int d), some (.int l), s6, none] ∧ (∃ os2, H2 O = some (.lst os2) ∧ RowsV O H2 ((if l > 1 then [(d, l - 1)] else []) ++ R) os2) ∧ H2 q0 = some (.tup [.int b, .str h, .int m]) ∧ Same H H2) (fun N hN => ?_) (fun σ' H2 hP => ?_)
        · refine ⟨.int l, rfl, l, 1, rfl, rfl, _, rfl, ?_⟩
          by_cases e1 : l > 1
          · rw [decide_eq_true (show (1 : Int) < l from e1)]
            refine iteT ⟨.ref O, rfl, .inl ⟨rfl, _, SqL.of ho⟩, .int d, rfl, .int l, rfl, l, 1, rfl, rfl, lt_line (by show 2 ≤ 1000000; decide), fun r2 hr2 => ?_⟩
            have n2 : r2 ≠ O := (ne_of_none ho hr2).symm
            refine ⟨O, _, .ref r2, rfl, rfl, (upd_ne n2.symm).trans ho, lt_line' (by omega), ?_⟩
            refine hN _ _ ⟨rfl, ⟨os' ++ [.ref r2], upd_same, ?_⟩, (upd_ne (ne_of hq ho (fun z => nomatch z))).trans ((upd_ne (ne_of_none hq hr2)).trans hq), (sK.new hr2).mut nO⟩
            rw [if_pos e1]
            exact ⟨os', r2, rfl, n2, (upd_ne n2).trans upd_same, hR.keep fun a o n h => (upd_ne n).trans ((upd_ne (ne_of_none h hr2)).trans h)⟩
          · rw [decide_eq_false (show ¬ (1 : Int) < l from e1)]
            refine iteF (hN _ _ ⟨rfl, ⟨os', ho, ?_⟩, hq, sK⟩)
            rw [if_neg e1]
            exact hR
        · obtain ⟨rfl, ⟨os2, ho, hR⟩, hq, sK⟩ := hP
          have lo2 := hR.len
          have lo3 : os2.length ≤ 2 + 2 * i := by
            rw [lo2, List.length_append]
            split
            · show 1 + R.length ≤ _
              omega
            · show 0 + R.length ≤ _
              omega
          refine ⟨.int d, rfl, .ref q0, rfl, q0, _, 0, .int b, rfl, rfl, .of hq, atI_nat (j := 0) rfl, d, b, rfl, rfl, asg_go2 ?_⟩
          dsimp only [List.set]
          refine cut_if (fun c H3 => c = !decide (h ∈ headsF (d + b)) ∧ Same H2 H3) (fun N hN => ?_) (fun c H3 hc => ?_)
          · refine ⟨.ref q0, rfl, q0, _, 1, .str h, rfl, rfl, .of hq, atI_nat (j := 1) rfl, lt_line (by show 3 ≤ 1000000; decide), fun f1 hf1 => ?_⟩
            have sx := (Same.refl H2).new (o := .lst [V.str "f", .str "g", .str "cons"]) hf1
            have hf : upd H2 f1 (.lst [V.str "f", .str "g", .str "cons"]) f1 = some (.lst [V.str "f", .str "g", .str "cons"]) := upd_same
            generalize upd H2 f1 (.lst [V.str "f", .str "g", .str "cons"]) = G5 at sx hf ⊢
            refine ⟨.int (d + b), rfl, d + b, rfl, by omega, by omega, fun D hD => ?_⟩
            refine lc_range (lo := 0) (n := (d + b).toNat) (fun i' H' => H' D = some (.lst (((List.range i').map fun j => ("x" : Str) ++ (toString ((j : Nat) : Int) : Str)).map V.str)) ∧ Same G5 H') ?_ (fun i' H5 hi2 hP => ?_) (fun H5 hP => ?_)
            · exact ⟨upd_same, (Same.refl G5).mut hD⟩
            · obtain ⟨hD1, s7⟩ := hP
              refine ⟨rfl, tyes ?_⟩
              have ei : (0 : Int) + (i' : Int) = ((i' : Nat) : Int) := by omega
              rw [ei]
              refine ⟨.int (i' : Nat), rfl, ((i' : Nat) : Int), rfl, log_lev (by omega), "x", _, rfl, rfl, lt_line ?_, _, hD1, lt_line' ?_, ?_, s7.mut hD⟩
              · have := lev_len ⟨i', by omega⟩
                have e : ("x" : Str).length = 1 := rfl
                have this : (toString ((i' : Nat) : Int) : Str).length ≤ 3 := this
                omega
              · rw [List.length_map, List.length_map, List.length_range]
                omega
              · rw [upd_same, List.range_succ, List.map_append, List.map_append]
                rfl
            · obtain ⟨hD1, s7⟩ := hP
              refine ⟨f1, D, _, _, rfl, rfl, s7 _ _ hf, hD1, lt_line (by rw [List.length_map, List.length_map, List.length_range]; show 3 + _ ≤ 1000000; omega), fun l3 hl3 => ?_⟩
              have ec : [V.str "f", V.str "g", V.str "cons"] ++ ((List.range (d + b).toNat).map fun j => ("x" : Str) ++ (toString ((j : Nat) : Int) : Str)).map V.str = (headsF (d + b)).map V.str := by
                unfold headsF
                rw [List.map_append]
                rfl
              rw [ec]
              refine ⟨l3, _, rfl, .inl (SqL.of upd_same), rfl, List.all_eq_true.mpr fun y hy => ?_, _, congrArg (fun c => V.bl (!c)) inV_strs, ?_⟩
              · obtain ⟨z, _, rfl⟩ := List.mem_map.mp hy
                rfl
              · exact hN _ _ ⟨rfl, (sx.trans s7).new hl3⟩
          · obtain ⟨ec, s7⟩ := hc
            subst ec
            have ho := s7 _ _ ho
            have hq := s7 _ _ hq
            have hR := hR.keep fun a o _ h => s7 a o h
            have sK := sK.trans s7
            cases eh : decide (h ∈ headsF (d + b)) with
            | false =>
              refine iteT ?_
              have z := q H3 sK
              rw [er, eg, eh] at z
              exact z
            | true =>
            rw [eh, if_pos rfl] at eg
            rw [eg] at er
            refine iteF ?_
            refine nx_go ?_
            dsimp only
            have br2 : ∀ p ∈ ((if m > 0 then [(d + b, m)] else []) ++ ((if l > 1 then [(d, l - 1)] else []) ++ R)), 0 ≤ p.1 ∧ 1 ≤ p.2 ∧ p.1 + tb (ns.drop (i + 1)) ≤ 100 := by
              intro p hp
              rcases List.mem_append.mp hp with hp | hp
              · split at hp
                · rw [List.mem_singleton.mp hp]
                  exact ⟨by show 0 ≤ d + b; omega, by show 1 ≤ m; omega, by show d + b + tb _ ≤ 100; omega⟩
                · cases hp
              · rcases List.mem_append.mp hp with hp | hp
                · split at hp
                  · rw [List.mem_singleton.mp hp]
                    exact ⟨d0, by show 1 ≤ l - 1; omega, by show d + tb _ ≤ 100; omega⟩
                  · cases hp
                · obtain ⟨p0, p1, p2⟩ := br p (List.mem_cons_of_mem _ hp)
                  have p2 : p.1 + ((if isCnt b then b else 0) + tb (ns.drop (i + 1))) ≤ 100 := p2
                  rw [cb, if_pos rfl] at p2
                  exact ⟨p0, p1, by omega⟩
            have l3 : ((if m > 0 then [(d + b, m)] else []) ++ ((if l > 1 then [(d, l - 1)] else []) ++ R)).length ≤ 1 + 2 * (i + 1) := by
              rw [List.length_append, ← lo2]
              split
              · show 1 + os2.length ≤ _
                omega
              · show 0 + os2.length ≤ _
                omega
            refine ⟨.ref q0, rfl, q0, _, 2, .int m, rfl, rfl, .of hq, atI_nat (j := 2) rfl, m, 0, rfl, rfl, _, rfl, ?_⟩
            by_cases e2 : m > 0
            · rw [decide_eq_true (show (0 : Int) < m from e2)]
              refine iteT ⟨.ref O, rfl, .inl ⟨rfl, _, SqL.of ho⟩, .int (d + b), rfl, .ref q0, rfl, q0, _, 2, .int m, rfl, rfl, .of hq, atI_nat (j := 2) rfl, lt_line (by show 2 ≤ 1000000; decide), fun r2 hr2 => ?_⟩
              have n2 : r2 ≠ O := (ne_of_none ho hr2).symm
              refine ⟨O, _, .ref r2, rfl, rfl, (upd_ne n2.symm).trans ho, lt_line' (by omega), ?_⟩
              refine ⟨⟨_, _, _, _, rfl⟩, ⟨os2 ++ [.ref r2], _, upd_same, ?_, l3, br2, er⟩, (sK.new hr2).mut nO⟩
              rw [if_pos e2]
              exact ⟨os2, r2, rfl, n2, (upd_ne n2).trans upd_same, hR.keep fun a o n h => (upd_ne n).trans ((upd_ne (ne_of_none h hr2)).trans h)⟩
            · rw [decide_eq_false (show ¬ (0 : Int) < m from e2)]
              refine iteF ⟨⟨_, _, _, _, rfl⟩, ⟨os2, _, ho, ?_, l3, br2, er⟩, sK⟩
              rw [if_neg e2]
              exact hR
      · obtain ⟨⟨s3, s4, s5, s6, rfl⟩, ⟨os, rows, ho, hr, lr, br, er⟩, sm⟩ := hP
        dsimp only
        rw [show ns.drop xs.length = [] by rw [hlen]; exact List.drop_length] at er
        have z := q H' sm
        rw [er] at z
        refine ⟨.ref O, rfl, Nat.zero_le _, fun e0 he0 => ?_⟩
        have sn := (Same.refl H').new (o := .lst []) he0
        have z := q _ (sm.trans sn)
        rw [er] at z
        refine ⟨_, _, .lst (SqL.of (sn _ _ ho)) (RowsV.dp (hr.keep fun a o _ h => sn a o h)), .lst (SqL.of upd_same) .nil, ?_, by decide, ?_⟩
        · rw [List.map_reverse, ← List.map_reverse]
          exact shaped_rows _
        · rw [eqv_nil]
          cases rows <;> exact z
end
/-- the two looks agree -/
theorem fine_eq {ns : List N3} (t : tb ns ≤ 100) (hh : ∀ b h m, some (b, h, m) ∈ ns → HeadOK h) : fineN ns = fineF ns := by
  have e := goN_eq ns [(0, 1)] (fun p hp => by rw [List.mem_singleton.mp hp]; exact ⟨Int.le_refl _, Int.le_refl _, by show 0 + tb ns ≤ 100; omega⟩) hh
  have e : goN [0] ns = goF [(0, 1)] ns := e
  unfold fineN fineF
  rw [← e]
  unfold goN
  cases ns with
  | nil => rfl
  | cons n r =>
    rw [decide_eq_true (show 1 ≤ (n :: r).length from Nat.succ_le_succ (Nat.zero_le _)), Bool.true_and]
    generalize ((n :: r).all okN && runN [0] ((n :: r).filterMap id)) = a
    generalize decide ((n :: r).length ≤ 40) = c
    cases a <;> cases c <;> rfl


end My
namespace My
open PySem PySem.Spec PyProof.Rows L2 TL
set_option pp.maxSteps 3000
set_option pp.deepTerms false
theorem intBits_le (x : Int) {n : Nat} (h : x.natAbs < 2 ^ n) (h0 : 0 < n) : Builtin.Int.intBits x ≤ n := by
  have e := PySem.Flt.log2_lt_of h0 h
  unfold Builtin.Int.intBits
  split <;> omega
section
variable {P : Program} {w : World} {K : PySem.W.Frag} {mg : Str → Option Value} {base : Heap}
theorem ok__law_roll (T : Txt K mg C_Program) {f : Addr} {fd : FuncData} (F : Fun K "_law_roll" "_law_roll" s__law_roll f fd) : FnOkG P w K mg base CX0 1 f fd ["_law_dice_here", "_law_total"] (sp__law_roll K) := by
  have nd := sc__law_roll.nd
  refine F.okG sc__law_roll (fun vs H Q E h => ?_) (fun cdv A outer s H vs Q E hr hG h => ?_)
  · obtain ⟨d, n, rfl, _⟩ := h
    rfl
  · obtain ⟨d, n, rfl, ⟨a, b, c, hd⟩, h0, h1, q⟩ := h
    refine ⟨_, (pss_cons (ps_if (pt_cmpR op_gt (pe_ix ix_list (pv 0) pe_int (fun _ _ => rfl)) pe_int (nomark _)) (pss_cons (ps_set (i := 2) nd rfl (.inl rfl) (pe_op op_mod (pe_callTy call_int1 (by rfl) T.b_int (by decide +kernel) (pa_cons (pe_ix ix_list (pv 0) pe_int (fun _ _ => rfl)) pa_nil)) (pv 1)))
      (pss_cons (ps_asg (pe_op op_fdiv (pe_ix ix_list (pv 0) pe_int (fun _ _ => rfl)) (pv 1)) (pg_sub (pv 0) pe_int set_list))
      (pss_one (ps_ret (pv 2))))) pss_nil)
      (pss_cons (ps_asg (pe_op op_add (pe_ix ix_list (pv 0) pe_int (fun _ _ => rfl)) pe_int) (pg_sub (pv 0) pe_int set_list))
      (pss_cons (ps_set (i := 3) nd rfl (.inl rfl) (pe_op op_mod (pe_callTy call_int1 (by rfl) T.b_int (by decide +kernel) (pa_cons (pe_op op_add (pe_ix ix_list (pv 0) pe_int (fun _ _ => rfl)) (pe_op op_mul pe_int (pe_ix ix_list (pv 0) pe_int (fun _ _ => rfl)))) pa_nil)) pe_int))
      (pss_cons (ps_set (i := 4) nd rfl (.inl rfl) (pe_op op_add (pe_op op_mul (pe_op op_mod (pe_callTy call_int1 (by rfl) T.b_int (by decide +kernel) (pa_cons (pe_op op_mul (pv 3) (pv 3)) pa_nil)) pe_int) (pv 3)) (pe_op op_mul pe_int (pe_ix ix_list (pv 0) pe_int (fun _ _ => rfl)))))
      (pss_cons (ps_set (i := 4) nd rfl (.inl rfl) (pe_op op_mod (pe_callTy call_int1 (by rfl) T.b_int (by decide +kernel) (pa_cons (pv 4) pa_nil)) pe_int))
      (pss_one (ps_ret (pe_op op_mod (pe_callTy call_int1 (by rfl) T.b_int (by decide +kernel) (pa_cons (pe_op op_fdiv (pv 4) pe_int) pa_nil)) (pv 1))))))))), ?_⟩
    have g0 : SqL K H d [.int a, .int b, .int c] := SqL.of hd
    refine ⟨.ref d, rfl, d, _, 0, _, rfl, rfl, g0, rfl, a, 0, rfl, rfl, _, rfl, ?_⟩
    refine ite2 (fun _ => ?_) (fun _ => ?_)
    · refine ⟨.ref d, rfl, d, _, 0, _, rfl, rfl, g0, rfl, .inl ⟨a, rfl, .int n, rfl, a, n, rfl, rfl, h0, ?_⟩⟩
      refine ⟨.ref d, rfl, d, _, 0, _, rfl, rfl, g0, rfl, .int n, rfl, a, n, rfl, rfl, ⟨h0, h1⟩, ?_⟩
      refine ⟨.ref d, rfl, d, _, 0, 0, rfl, rfl, hd, rfl, ?_⟩
      refine ⟨.int (a % n), rfl, ?_⟩
      exact q _ _ (Int.emod_nonneg _ (by omega)) (Int.emod_lt_of_pos _ h0) Ext.set ⟨_, _, _, upd_same⟩
    · refine ⟨.ref d, rfl, d, _, 2, _, rfl, rfl, g0, rfl, c, 1, rfl, rfl, ?_⟩
      refine ⟨.ref d, rfl, d, _, 2, 2, rfl, rfl, hd, rfl, ?_⟩
      have g2 : SqL K (upd H d (.lst [.int a, .int b, .int (c + 1)])) d [.int a, .int b, .int (c + 1)] := SqL.of upd_same
      refine ⟨.ref d, rfl, d, _, 1, _, rfl, rfl, g2, rfl, .ref d, rfl, d, _, 2, _, rfl, rfl, g2, rfl, 998244293, c + 1, rfl, rfl, .inl ⟨by decide, by decide⟩, b, _, rfl, rfl, ?_⟩
      refine .inl ⟨_, rfl, _, _, rfl, rfl, (show (0 : Int) < 2305843009213693951 by decide), ?_⟩
      have x0 : 0 ≤ (b + 998244293 * (c + 1)) % 2305843009213693951 := Int.emod_nonneg _ (by decide)
      have x1 : (b + 998244293 * (c + 1)) % 2305843009213693951 < 2305843009213693951 := Int.emod_lt_of_pos _ (by decide)
      have xm : -(2 ^ 64 : Int) < (b + 998244293 * (c + 1)) % 2305843009213693951 ∧ (b + 998244293 * (c + 1)) % 2305843009213693951 < 2 ^ 64 := ⟨by omega, by omega⟩
      refine ⟨_, rfl, _, rfl, _, _, rfl, rfl, .inl xm, .inl ⟨_, rfl, _, _, rfl, rfl, (show (0 : Int) < 2305843009213693921 by decide), ?_⟩⟩
      refine ⟨_, rfl, _, _, rfl, rfl, .inr xm, ?_⟩
      refine ⟨.ref d, rfl, d, _, 2, _, rfl, rfl, g2, rfl, 9413, c + 1, rfl, rfl, .inl ⟨by decide, by decide⟩, _, _, rfl, rfl, ?_⟩
      refine ⟨_, rfl, .inl ⟨_, rfl, _, _, rfl, rfl, (show (0 : Int) < 2305843009213693669 by decide), ?_⟩⟩
      refine ⟨_, rfl, _, _, rfl, rfl, ⟨(show (0 : Int) < 8192 by decide), (show (8192 : Int) < 1073741824 by decide)⟩, .inl ⟨_, rfl, .int n, rfl, _, n, rfl, rfl, h0, ?_⟩⟩
      exact q _ _ (Int.emod_nonneg _ (by omega)) (Int.emod_lt_of_pos _ h0) Ext.set ⟨_, _, _, upd_same⟩
theorem ok__law_pick (T : Txt K mg C_Program) (c__law_roll : Cal P w K mg base "_law_roll" 1 ["_law_dice_here", "_law_total"] (sp__law_roll K)) {f : Addr} {fd : FuncData} (F : Fun K "_law_pick" "_law_pick" s__law_pick f fd) : FnOkG P w K mg base CX0 2 f fd ["_law_dice_here", "_law_items"] (sp__law_pick K) := by
  have nd := sc__law_pick.nd
  refine F.okG sc__law_pick (fun vs H Q E h => ?_) (fun cdv A outer s H vs Q E hr hG h => ?_)
  · obtain ⟨d, l, xs, rfl, _⟩ := h
    rfl
  · obtain ⟨d, l, xs, rfl, hd, hl, ne, xne, hz, q⟩ := h
    refine ⟨_, (pss_one (ps_ret (pe_ix ix_list (pv 1) (pe_callC c__law_roll (hr.mono (by first | decide | omega)) hG rfl (pa_cons (pv 0) (pa_cons (pe_callB call_len (by rfl) T.b_len (by decide +kernel) (pa_cons (pv 1) pa_nil)) pa_nil))) (fun _ _ => rfl)))), ?_⟩
    have h1 : 0 < xs.length := List.length_pos_iff.mpr xne
    refine ⟨.ref l, rfl, .ref d, rfl, .ref l, rfl, .ref l, xs.length, rfl, .inl ⟨xs, hl, rfl⟩, ?_⟩
    refine ⟨d, (xs.length : Int), rfl, hd, by omega, by omega, fun r H' r0 r1 e dd => ?_⟩
    have hr' : r.toNat < xs.length := by omega
    have er : r = (r.toNat : Int) := by omega
    refine ⟨l, xs, r, xs[r.toNat], rfl, rfl, sql_ext e ne hl, ?_, ?_⟩
    · have g := atI_nat (List.getElem?_eq_getElem hr')
      rw [← er] at g
      exact g
    · exact q _ _ (List.getElem_mem hr') e dd
end

section
variable {P : Program} {w : World} {K : PySem.W.Frag} {mg : Str → Option Value} {base : Heap}
theorem ok__law_dice (T : Txt K mg C_Program) {f : Addr} {fd : FuncData} (F : Fun K "_law_dice" "_law_dice" s__law_dice f fd) : FnOkG P w K mg base CX0 1 f fd ["_law_script", "_law_spot"] (sp__law_dice K) := by
  have nd := sc__law_dice.nd
  refine F.okG sc__law_dice (fun vs H Q E h => ?_) (fun cdv A outer s H vs Q E hr hG h => ?_)
  · obtain ⟨a, ns, i, rfl, _⟩ := h
    rfl
  · obtain ⟨a, ns, i', rfl, hS, hi0, hi, q⟩ := h
    obtain ⟨i, rfl⟩ := Int.eq_ofNat_of_zero_le hi0
    refine ⟨_, (pss_cons (ps_set (i := 2) nd rfl (.inl rfl) (pe_op op_add (pe_op op_mul pe_int (pv 1)) pe_int))
      (pss_cons (ps_if (pt_cmpR op_lt (pv 1) (pe_callB call_len (by rfl) T.b_len (by decide +kernel) (pa_cons (pv 0) pa_nil)) (nomark _)) (pss_one (ps_set (i := 2) nd rfl (.inl rfl) (pe_ix ix_list (pv 0) (pv 1) (fun _ _ => rfl)))) pss_nil)
      (pss_cons (ps_set (i := 3) nd rfl (.inl rfl) (pe_op op_mod (pe_callTy call_int1 (by rfl) T.b_int (by decide +kernel) (pa_cons (pe_callB call_abs (by rfl) T.b_abs (by decide +kernel) (pa_cons (pv 2) pa_nil)) pa_nil)) (pe_op op_powW (pe_op op_powW pe_int pe_int) pe_int)))
      (pss_cons (ps_set (i := 4) nd rfl (.inl rfl) (pe_op op_add (pe_op op_add (pe_op op_add (pe_op op_mul (pe_op op_mod (pe_callTy call_int1 (by rfl) T.b_int (by decide +kernel) (pa_cons (pv 3) pa_nil)) pe_int) pe_int) (pe_op op_mul pe_int (pv 1))) (pe_op op_mul pe_int (pe_callTy call_int1 (by rfl) T.b_int (by decide +kernel) (pa_cons (pe_cmpR op_lt (pv 2) pe_int (nomark _)) pa_nil)))) pe_int))
      (pss_one (ps_ret (pe_lst (pa_cons (pe_callB (call_max2 rfl) (by rfl) T.b_max (by decide +kernel) (pa_cons pe_int (pa_cons (pe_op op_sub (pv 3) (pe_op op_powW pe_int pe_int)) pa_nil))) (pa_cons (pe_op op_mod (pe_callTy call_int1 (by rfl) T.b_int (by decide +kernel) (pa_cons (pv 4) pa_nil)) pe_int) (pa_cons pe_int pa_nil)))))))))), ?_⟩
    refine ⟨.int i, rfl, _, _, rfl, rfl, .inl ⟨by decide, by decide⟩, _, _, rfl, rfl, ?_⟩
    refine ⟨.int i, rfl, .ref a, rfl, .ref a, _, rfl, .inl ⟨_, hS, rfl⟩, _, _, rfl, rfl, _, rfl, ?_⟩
    have p1 : (0 : Int) < (10 ^ 60) ^ 10 := by decide +kernel
    have p2 : (0 : Int) < 2305843009213693669 := by decide
    refine ite2 (fun hlt => ?_) (fun _ => ?_)
    · have hlt' : i < ns.length := by
        have := of_decide_eq_true hlt
        rw [List.length_map] at this
        omega
      refine ⟨.ref a, rfl, .int i, rfl, a, _, _, .int ns[i], rfl, rfl, hS, atI_nat (by rw [List.getElem?_map, List.getElem?_eq_getElem hlt']; rfl), ?_⟩
      refine ⟨_, rfl, _, rfl, .inl ⟨_, rfl, 10, 60, rfl, rfl, ⟨by decide, by decide +kernel⟩, _, 10, rfl, rfl, ⟨by decide, by decide +kernel⟩, _, _, rfl, rfl, p1, ?_⟩⟩
      refine ⟨_, rfl, .inl ⟨_, rfl, _, _, rfl, rfl, p2, _, _, rfl, rfl, .inr ⟨by decide, by decide⟩, .int i, rfl, _, _, rfl, rfl, .inl ⟨by decide, by decide⟩, _, _, rfl, rfl, ?_⟩⟩
      refine ⟨_, rfl, _, _, rfl, rfl, .inr ⟨_, rfl, _, _, rfl, rfl, .inl ⟨by decide, by decide⟩, _, _, rfl, rfl, _, _, rfl, rfl, ?_⟩⟩
      refine ⟨_, rfl, 10, 18, rfl, rfl, ⟨by decide, by decide +kernel⟩, _, _, rfl, rfl, _, _, rfl, _, rfl, .inl ⟨_, rfl, _, _, rfl, rfl, p2, by show 3 ≤ sizeLine; decide, fun p hp => q p _ hp ⟨_, _, _, upd_same⟩⟩⟩
    · refine ⟨_, rfl, _, rfl, .inl ⟨_, rfl, 10, 60, rfl, rfl, ⟨by decide, by decide +kernel⟩, _, 10, rfl, rfl, ⟨by decide, by decide +kernel⟩, _, _, rfl, rfl, p1, ?_⟩⟩
      refine ⟨_, rfl, .inl ⟨_, rfl, _, _, rfl, rfl, p2, _, _, rfl, rfl, .inr ⟨by decide, by decide⟩, .int i, rfl, _, _, rfl, rfl, .inl ⟨by decide, by decide⟩, _, _, rfl, rfl, ?_⟩⟩
      refine ⟨_, rfl, _, _, rfl, rfl, .inr ⟨_, rfl, _, _, rfl, rfl, .inl ⟨by decide, by decide⟩, _, _, rfl, rfl, _, _, rfl, rfl, ?_⟩⟩
      refine ⟨_, rfl, 10, 18, rfl, rfl, ⟨by decide, by decide +kernel⟩, _, _, rfl, rfl, _, _, rfl, _, rfl, .inl ⟨_, rfl, _, _, rfl, rfl, p2, by show 3 ≤ sizeLine; decide, fun p hp => q p _ hp ⟨_, _, _, upd_same⟩⟩⟩
end


end My
namespace My
open PySem PySem.Spec PyProof.Rows L2 TL
set_option pp.maxSteps 3000
set_option pp.deepTerms false
/-! ### plain programs -/
inductive Pg where
  | mk (b : Nat) (h : Str) (args : List Pg)
mutual
def Pg.nodes : Pg → List (Int × Str × Int)
  | .mk b h as => ((b : Int), h, (as.length : Int)) :: Pg.nodesL as
def Pg.nodesL : List Pg → List (Int × Str × Int)
  | [] => []
  | t :: r => t.nodes ++ Pg.nodesL r
end
mutual
def Pg.depth : Pg → Nat
  | .mk _ _ as => Pg.depthL as + 1
def Pg.depthL : List Pg → Nat
  | [] => 0
  | t :: r => max t.depth (Pg.depthL r)
end
mutual
def IsG (H : Hp) : Pg → V → Prop
  | .mk b h as, v => ∃ q a rs, v = .ref q ∧ H q = some (.tup [.int (b : Nat), .str h, .ref a]) ∧ H a = some (.tup rs) ∧ IsGs H as rs
def IsGs (H : Hp) : List Pg → List V → Prop
  | [], rs => rs = []
  | t :: r, rs => ∃ v vs, rs = v :: vs ∧ IsG H t v ∧ IsGs H r vs
end
mutual
theorem IsG.tup {H H' : Hp} (s : ∀ a xs, H a = some (.tup xs) → H' a = some (.tup xs)) : ∀ (t : Pg) (v : V), IsG H t v → IsG H' t v
  | .mk b h as, v, e => by
    rw [IsG] at e ⊢
    obtain ⟨q, a, rs, e1, e2, e3, e4⟩ := e
    exact ⟨q, a, rs, e1, s _ _ e2, s _ _ e3, IsGs.tup s as rs e4⟩
theorem IsGs.tup {H H' : Hp} (s : ∀ a xs, H a = some (.tup xs) → H' a = some (.tup xs)) : ∀ (l : List Pg) (rs : List V), IsGs H l rs → IsGs H' l rs
  | [], rs, e => by
    rw [IsGs] at e ⊢
    exact e
  | t :: r, rs, e => by
    rw [IsGs] at e ⊢
    obtain ⟨v, vs, e1, e2, e3⟩ := e
    exact ⟨v, vs, e1, IsG.tup s t v e2, IsGs.tup s r vs e3⟩
end
theorem IsGs.len {H : Hp} : ∀ {l : List Pg} {rs : List V}, IsGs H l rs → rs.length = l.length
  | [], rs, e => by
    rw [IsGs] at e
    rw [e]
    rfl
  | t :: r, rs, e => by
    rw [IsGs] at e
    obtain ⟨v, vs, rfl, _, e3⟩ := e
    exact congrArg (· + 1) (IsGs.len e3)
theorem IsGs.get {H : Hp} : ∀ {l : List Pg} {rs : List V} {i : Nat} {v : V}, IsGs H l rs → rs[i]? = some v → ∃ t, l[i]? = some t ∧ IsG H t v
  | [], rs, i, v, h, e => by
    rw [IsGs] at h
    rw [h] at e
    cases e
  | t :: r, rs, i, v, h, e => by
    rw [IsGs] at h
    obtain ⟨w, ws, rfl, h1, h2⟩ := h
    cases i with
    | zero => exact ⟨t, rfl, by cases e; exact h1⟩
    | succ i => exact IsGs.get (l := r) (i := i) h2 e
theorem Pg.nodesL_append : ∀ a b : List Pg, Pg.nodesL (a ++ b) = Pg.nodesL a ++ Pg.nodesL b
  | [], _ => by rw [Pg.nodesL]; rfl
  | t :: r, b => by rw [List.cons_append, Pg.nodesL, Pg.nodesL, Pg.nodesL_append r b, List.append_assoc]
theorem Pg.depth_mem {t : Pg} : ∀ {l : List Pg}, t ∈ l → t.depth ≤ Pg.depthL l
  | u :: r, h => by
    rw [Pg.depthL]
    rcases List.mem_cons.mp h with h | h
    · rw [h]
      exact Nat.le_max_left _ _
    · exact Nat.le_trans (Pg.depth_mem h) (Nat.le_max_right _ _)
theorem NdsV.app {K : PySem.W.Frag} {H : Hp} : ∀ {xs : List V} {ns : List N3} {ys : List V} {ms : List N3}, NdsV K H xs ns → NdsV K H ys ms → NdsV K H (xs ++ ys) (ns ++ ms)
  | [], [], _, _, _, h => h
  | [], _ :: _, _, _, h, _ => h.elim
  | _ :: _, [], _, _, h, _ => h.elim
  | _ :: _, _ :: _, _, _, ⟨a, r⟩, h => ⟨a, NdsV.app r h⟩
/-- the nodes of a plain program, as a list -/
def spr__law_program_nodes (n : Nat) (K : PySem.W.Frag) : Sp := fun vs H Q _ => ∃ v t, vs = [v] ∧ IsG H t v ∧ t.depth ≤ n ∧ t.nodes.length ≤ 1000 ∧ (∀ m ∈ t.nodes, m.2.1.length ≤ 100 ∧ ∀ c ∈ m.2.1.cps.toList, c < 128) ∧
  ∀ p xs H', Same H H' → H p = none → H' p = some (.lst xs) → NdsV K H' xs (t.nodes.map some) → Q (.ref p) H'
def sp__law_program_nodes (K : PySem.W.Frag) : Sp := spr__law_program_nodes 5 K
section
variable {P : Program} {w : World} {K : PySem.W.Frag} {mg : Str → Option Value} {base : Heap}
theorem ok__law_program_nodes (T : Txt K mg C_Program) {f : Addr} {fd : FuncData} (F : Fun K "_law_program_nodes" "_law_program_nodes" s__law_program_nodes f fd) (M : mg "_law_program_nodes" = some (.ref f)) (B : Binds K fd ["_law_program"] []) : ∀ n : Nat, FnOkG P w K mg base CX0 (1 + n) f fd ["_law_program"] (spr__law_program_nodes n K)
  | 0 => by
    refine F.okG sc__law_program_nodes (fun vs H Q E h => ?_) (fun cdv A outer s H vs Q E hr hG h => ?_) <;> (obtain ⟨_, t, _, _, z, _⟩ := h; cases t; rw [Pg.depth] at z; exact absurd z (Nat.not_succ_le_zero _))
  | n + 1 => by
    have ih := ok__law_program_nodes T F M B n
    have C_self : Cal P w K mg base "_law_program_nodes" (1 + n) ["_law_program"] (spr__law_program_nodes n K) := ⟨f, fd, ih, M, F.kp, B⟩
    have nd := sc__law_program_nodes.nd
    refine F.okG sc__law_program_nodes (fun vs H Q E h => ?_) (fun cdv A outer s H vs Q E hr hG h => ?_)
    · obtain ⟨v, t, rfl, _⟩ := h
      rfl
    · obtain ⟨v, t, rfl, ht, dep, fn, fh, q⟩ := h
      have hr : Room (1 + n) (A.deeper (envOfC "_law_program_nodes" (defScope s__law_program_nodes) s.heap.objs.size f cdv)) := by
        have e : 1 + n = Nat.add 1 n := rfl
        exact hr
      refine ⟨_, (pss_cons (ps_set (i := 1) nd rfl (.inl rfl) (pe_lst (pa_cons (pe_tup (pa_cons (pe_ix ix_tup (pv 0) pe_int (fun _ _ => rfl)) (pa_cons (pe_ix ix_tup (pv 0) pe_int (fun _ _ => rfl)) (pa_cons (pe_callB call_len (by rfl) T.b_len (by decide +kernel) (pa_cons (pe_ix ix_tup (pv 0) pe_int (fun _ _ => rfl)) pa_nil)) pa_nil)))) pa_nil)))
      (pss_cons (ps_for PassesOwn.never rfl (pi_tup (pe_ix ix_tup (pv 0) pe_int (fun _ _ => rfl))) (pg_name (i := 2) nd rfl (.inl rfl)) (pss_one (ps_set (i := 1) nd rfl (.inl rfl) (pe_op op_cat (pv 1) (pe_callC C_self (hr.mono (by first | decide | omega)) hG rfl (pa_cons (pv 2) pa_nil))))))
      (pss_one (ps_ret (pv 1))))), ?_⟩
      cases t with
      | mk b h as =>
      rw [IsG] at ht
      obtain ⟨p, a, rs, rfl, hp, ha, hg⟩ := ht
      rw [Pg.depth] at dep
      rw [Pg.nodes] at fn fh q
      have lg := hg.len
      have fn : (Pg.nodesL as).length + 1 ≤ 1000 := fn
      have fh0 := fh _ List.mem_cons_self
      have fhL : ∀ m ∈ Pg.nodesL as, m.2.1.length ≤ 100 ∧ ∀ c ∈ m.2.1.cps.toList, c < 128 := fun m hm => fh m (List.mem_cons_of_mem _ hm)
      refine ⟨.ref p, rfl, p, _, 0, .int (b : Nat), rfl, rfl, .of hp, atI_nat (j := 0) rfl, .ref p, rfl, p, _, 1, .str h, rfl, rfl, .of hp, atI_nat (j := 1) rfl, .ref p, rfl, p, _, 2, .ref a, rfl, rfl, .of hp, atI_nat (j := 2) rfl, .ref a, as.length, rfl, .inr ⟨rs, .of ha, lg.symm⟩, ?_⟩
      refine ⟨lt_line (by show 3 ≤ 1000000; decide), fun t1 ht1 => ⟨lt_line (by show 1 ≤ 1000000; decide), fun l1 hl1 => ?_⟩⟩
      refine asg_go2 ?_
      dsimp only [List.set]
      have s1 := ((Same.refl H).new (o := .tup [.int (b : Nat), .str h, .int (as.length : Nat)]) ht1).new (o := .lst [.ref t1]) hl1
      have nt : t1 ≠ l1 := ne_of_none upd_same hl1
      have hT : upd (upd H t1 (.tup [.int (b : Nat), .str h, .int (as.length : Nat)])) l1 (.lst [.ref t1]) t1 = some (.tup [.int (b : Nat), .str h, .int (as.length : Nat)]) := (upd_ne nt).trans upd_same
      have hL : upd (upd H t1 (.tup [.int (b : Nat), .str h, .int (as.length : Nat)])) l1 (.lst [.ref t1]) l1 = some (.lst [.ref t1]) := upd_same
      have nl : H l1 = none := ((Same.refl H).new (o := .tup [.int (b : Nat), .str h, .int (as.length : Nat)]) ht1).free hl1
      generalize upd (upd H t1 (.tup [.int (b : Nat), .str h, .int (as.length : Nat)])) l1 (.lst [.ref t1]) = G at s1 hT hL ⊢
      refine ⟨.ref p, rfl, p, _, 2, .ref a, rfl, rfl, .of (s1 _ _ hp), atI_nat (j := 2) rfl, a, rfl, ⟨rs, .of (s1 _ _ ha)⟩, ?_⟩
      refine for_tup (xs := rs) (fun i σ' H' => ∃ l xs s3, σ' = [some (.ref p), some (.ref l), s3] ∧ H' l = some (.lst xs) ∧ H l = none ∧ NdsV K H' xs ((((b : Int), h, (as.length : Int)) :: Pg.nodesL (as.take i)).map some) ∧ Same H H') ?_ (fun i σ' H' _ hP => ?_) (fun i y σ' H' hy hP => ?_) (fun σ' H' hP => ?_)
      · exact ⟨l1, _, _, rfl, hL, nl, ⟨⟨t1, rfl, hT, fh0⟩, by rw [List.take_zero, Pg.nodesL]; trivial⟩, s1⟩
      · obtain ⟨_, _, _, _, _, _, _, s2⟩ := hP
        exact SqT.of (s2 _ _ ha)
      · obtain ⟨l, xs, s3, rfl, hl, nl, hx, s2⟩ := hP
        obtain ⟨u, eu, hu⟩ := hg.get hy
        have um := List.mem_of_getElem? eu
        have ud := Pg.depth_mem um
        have split : Pg.nodesL as = Pg.nodesL (as.take i) ++ (u.nodes ++ Pg.nodesL (as.drop (i + 1))) := by
          have e : as = as.take i ++ u :: as.drop (i + 1) := by
            rw [← (List.getElem?_eq_some_iff.mp eu).2, List.getElem_cons_drop, List.take_append_drop]
          have e2 : Pg.nodesL as = Pg.nodesL (as.take i ++ u :: as.drop (i + 1)) := congrArg Pg.nodesL e
          rw [e2, Pg.nodesL_append, Pg.nodesL]
        have ln : (Pg.nodesL as).length = (Pg.nodesL (as.take i)).length + (u.nodes.length + (Pg.nodesL (as.drop (i + 1))).length) := by rw [split, List.length_append, List.length_append]
        have lx := hx.len
        rw [List.length_map, List.length_cons] at lx
        refine ⟨.ref l, rfl, y, rfl, y, u, rfl, hu.tup (fun c zs hc => s2 _ _ hc), by omega, by omega, fun m hm => fhL m ?_, fun p2 ys H2 s4 np hp2 hn2 => ?_⟩
        · rw [split]
          exact List.mem_append_right _ (List.mem_append_left _ hm)
        have ly := hn2.len
        rw [List.length_map] at ly
        refine ⟨l, p2, _, _, rfl, rfl, s4 _ _ hl, hp2, lt_line (by omega), fun p3 hp3 => ?_⟩
        have s5 := s2.trans s4
        refine ⟨p3, xs ++ ys, _, rfl, upd_same, s5.free hp3, ?_, s5.new hp3⟩
        rw [take_next eu, Pg.nodesL_append, Pg.nodesL, Pg.nodesL, List.append_nil, ← List.cons_append, List.map_append]
        exact ((hx.same s4).same ((Same.refl H2).new hp3)).app (hn2.same ((Same.refl H2).new hp3))
      · obtain ⟨l, xs, s3, rfl, hl, nl, hx, s2⟩ := hP
        rw [lg, List.take_length] at hx
        exact ⟨.ref l, rfl, q l xs H' s2 nl hl hx⟩
end


end My
namespace My
open PySem PySem.Spec PyProof.Rows L2 TL
set_option pp.maxSteps 3000
set_option pp.deepTerms false
/-- as many parts as nodes -/
def spr__law_program_parts (n : Nat) (K : PySem.W.Frag) : Sp := fun vs H Q _ => ∃ v t, vs = [v] ∧ IsG H t v ∧ t.depth ≤ n ∧ t.nodes.length ≤ 1000 ∧
  ∀ p xs H', Same H H' → H p = none → H' p = some (.lst xs) → xs.length = t.nodes.length → Q (.ref p) H'
def sp__law_program_parts (K : PySem.W.Frag) : Sp := spr__law_program_parts 5 K
section
variable {P : Program} {w : World} {K : PySem.W.Frag} {mg : Str → Option Value} {base : Heap}
theorem ok__law_program_parts (T : Txt K mg C_Program) {f : Addr} {fd : FuncData} (F : Fun K "_law_program_parts" "_law_program_parts" s__law_program_parts f fd) (M : mg "_law_program_parts" = some (.ref f)) (B : Binds K fd ["_law_program"] []) : ∀ n : Nat, FnOkG P w K mg base CX0 (1 + n) f fd ["_law_program"] (spr__law_program_parts n K)
  | 0 => by
    refine F.okG sc__law_program_parts (fun vs H Q E h => ?_) (fun cdv A outer s H vs Q E hr hG h => ?_) <;> (obtain ⟨_, t, _, _, z, _⟩ := h; cases t; rw [Pg.depth] at z; exact absurd z (Nat.not_succ_le_zero _))
  | n + 1 => by
    have ih := ok__law_program_parts T F M B n
    have C_self : Cal P w K mg base "_law_program_parts" (1 + n) ["_law_program"] (spr__law_program_parts n K) := ⟨f, fd, ih, M, F.kp, B⟩
    have nd := sc__law_program_parts.nd
    refine F.okG sc__law_program_parts (fun vs H Q E h => ?_) (fun cdv A outer s H vs Q E hr hG h => ?_)
    · obtain ⟨v, t, rfl, _⟩ := h
      rfl
    · obtain ⟨v, t, rfl, ht, dep, fn, q⟩ := h
      have hr : Room (1 + n) (A.deeper (envOfC "_law_program_parts" (defScope s__law_program_parts) s.heap.objs.size f cdv)) := by
        have e : 1 + n = Nat.add 1 n := rfl
        exact hr
      refine ⟨_, (pss_cons (ps_set (i := 1) nd rfl (.inl rfl) (pe_lst (pa_cons (pv 0) pa_nil)))
      (pss_cons (ps_for PassesOwn.never rfl (pi_tup (pe_ix ix_tup (pv 0) pe_int (fun _ _ => rfl))) (pg_name (i := 2) nd rfl (.inl rfl)) (pss_one (ps_set (i := 1) nd rfl (.inl rfl) (pe_op op_cat (pv 1) (pe_callC C_self (hr.mono (by first | decide | omega)) hG rfl (pa_cons (pv 2) pa_nil))))))
      (pss_one (ps_ret (pv 1))))), ?_⟩
      cases t with
      | mk b h as =>
      rw [IsG] at ht
      obtain ⟨p, a, rs, rfl, hp, ha, hg⟩ := ht
      rw [Pg.depth] at dep
      rw [Pg.nodes] at fn q
      have lg := hg.len
      have fn : (Pg.nodesL as).length + 1 ≤ 1000 := fn
      refine ⟨.ref p, rfl, lt_line (by show 1 ≤ 1000000; decide), fun l1 hl1 => ?_⟩
      refine asg_go2 ?_
      dsimp only [List.set]
      have s1 := (Same.refl H).new (o := .lst [.ref p]) hl1
      have hL : upd H l1 (.lst [.ref p]) l1 = some (.lst [.ref p]) := upd_same
      have nl : H l1 = none := hl1
      generalize upd H l1 (.lst [.ref p]) = G at s1 hL ⊢
      refine ⟨.ref p, rfl, p, _, 2, .ref a, rfl, rfl, .of (s1 _ _ hp), atI_nat (j := 2) rfl, a, rfl, ⟨rs, .of (s1 _ _ ha)⟩, ?_⟩
      refine for_tup (xs := rs) (fun i σ' H' => ∃ l xs s3, σ' = [some (.ref p), some (.ref l), s3] ∧ H' l = some (.lst xs) ∧ H l = none ∧ xs.length = (Pg.nodesL (as.take i)).length + 1 ∧ Same H H') ?_ (fun i σ' H' _ hP => ?_) (fun i y σ' H' hy hP => ?_) (fun σ' H' hP => ?_)
      · exact ⟨l1, _, _, rfl, hL, nl, by rw [List.take_zero, Pg.nodesL]; rfl, s1⟩
      · obtain ⟨_, _, _, _, _, _, _, s2⟩ := hP
        exact SqT.of (s2 _ _ ha)
      · obtain ⟨l, xs, s3, rfl, hl, nl, lx, s2⟩ := hP
        obtain ⟨u, eu, hu⟩ := hg.get hy
        have um := List.mem_of_getElem? eu
        have ud := Pg.depth_mem um
        have split : Pg.nodesL as = Pg.nodesL (as.take i) ++ (u.nodes ++ Pg.nodesL (as.drop (i + 1))) := by
          have e : as = as.take i ++ u :: as.drop (i + 1) := by
            rw [← (List.getElem?_eq_some_iff.mp eu).2, List.getElem_cons_drop, List.take_append_drop]
          have e2 : Pg.nodesL as = Pg.nodesL (as.take i ++ u :: as.drop (i + 1)) := congrArg Pg.nodesL e
          rw [e2, Pg.nodesL_append, Pg.nodesL]
        have ln : (Pg.nodesL as).length = (Pg.nodesL (as.take i)).length + (u.nodes.length + (Pg.nodesL (as.drop (i + 1))).length) := by rw [split, List.length_append, List.length_append]
        refine ⟨.ref l, rfl, y, rfl, y, u, rfl, hu.tup (fun c zs hc => s2 _ _ hc), by omega, by omega, fun p2 ys H2 s4 np hp2 ly => ?_⟩
        refine ⟨l, p2, _, _, rfl, rfl, s4 _ _ hl, hp2, lt_line (by omega), fun p3 hp3 => ?_⟩
        have s5 := s2.trans s4
        refine ⟨p3, xs ++ ys, _, rfl, upd_same, s5.free hp3, ?_, s5.new hp3⟩
        rw [take_next eu, Pg.nodesL_append, Pg.nodesL, Pg.nodesL, List.append_nil, List.length_append, List.length_append]
        omega
      · obtain ⟨l, xs, s3, rfl, hl, nl, lx, s2⟩ := hP
        rw [lg, List.take_length] at lx
        exact ⟨.ref l, rfl, q l xs H' s2 nl hl lx⟩
end


end My
namespace My
open PySem PySem.Spec PyProof.Rows L2 TL
set_option pp.maxSteps 3000
set_option pp.deepTerms false
/-! ### drawn programs -/
mutual
def Pg.Good (bd : Nat) : Pg → Prop
  | .mk b h as => b ≤ 2 ∧ h ∈ headsF ((bd + b : Nat) : Int) ∧ as.length ≤ 3 ∧ Pg.GoodL (bd + b) as
def Pg.GoodL (bd : Nat) : List Pg → Prop
  | [] => True
  | t :: r => t.Good bd ∧ Pg.GoodL bd r
end
def spr__law_drawn (n : Nat) (K : PySem.W.Frag) : Sp := fun vs H Q _ => ∃ d, ∃ bd m : Nat, vs = [.ref d, .int bd, .int m] ∧ IsDice H d ∧ n ≤ 4 ∧ bd + 2 * n ≤ 50 ∧ 1 ≤ m ∧ m < 2 ^ n ∧
  ∀ v t H', IsG H' t v → t.Good bd → t.nodes.length ≤ m → t.depth ≤ n → Ext d H H' → IsDice H' d → Q v H'
def sp__law_drawn (K : PySem.W.Frag) : Sp := spr__law_drawn 4 K
theorem pick_binders {x : V} (hx : x ∈ [V.int 0, V.int 0, V.int 1, V.int 2]) : ∃ b : Nat, x = .int (b : Nat) ∧ b ≤ 2 := by
  rcases List.mem_cons.mp hx with rfl | hx
  · exact ⟨0, rfl, by decide⟩
  rcases List.mem_cons.mp hx with rfl | hx
  · exact ⟨0, rfl, by decide⟩
  rcases List.mem_cons.mp hx with rfl | hx
  · exact ⟨1, rfl, by decide⟩
  · rw [List.mem_singleton.mp hx]
    exact ⟨2, rfl, by decide⟩
theorem Pg.goodL_app {bd : Nat} : ∀ {a b : List Pg}, Pg.GoodL bd a → Pg.GoodL bd b → Pg.GoodL bd (a ++ b)
  | [], _, _, h => h
  | t :: r, b, h, k => by
    rw [Pg.GoodL] at h
    rw [List.cons_append, Pg.GoodL]
    exact ⟨h.1, Pg.goodL_app h.2 k⟩
theorem IsGs.app {H : Hp} : ∀ {a : List Pg} {rs : List V} {t : Pg} {v : V}, IsGs H a rs → IsG H t v → IsGs H (a ++ [t]) (rs ++ [v])
  | [], rs, t, v, h, k => by
    rw [IsGs] at h
    rw [h]
    show IsGs H [t] [v]
    rw [IsGs]
    exact ⟨v, [], rfl, k, by rw [IsGs]⟩
  | u :: r, rs, t, v, h, k => by
    rw [IsGs] at h
    obtain ⟨w, ws, rfl, h1, h2⟩ := h
    show IsGs H (u :: (r ++ [t])) (w :: (ws ++ [v]))
    rw [IsGs]
    exact ⟨w, ws ++ [v], rfl, h1, IsGs.app h2 k⟩
theorem Pg.depthL_app : ∀ (a : List Pg) (t : Pg) (n : Nat), Pg.depthL a ≤ n → t.depth ≤ n → Pg.depthL (a ++ [t]) ≤ n
  | [], t, n, _, k => by
    show Pg.depthL [t] ≤ n
    rw [Pg.depthL, Pg.depthL]
    exact Nat.max_le.mpr ⟨k, Nat.zero_le _⟩
  | u :: r, t, n, h, k => by
    rw [Pg.depthL] at h
    rw [List.cons_append, Pg.depthL]
    have := Nat.max_le.mp h
    exact Nat.max_le.mpr ⟨this.1, Pg.depthL_app r t n this.2 k⟩
/-- a drawn list's tuples stay when a list changes -/
theorem tup_lst {H : Hp} {l : Addr} {xs ys : List V} (h : H l = some (.lst xs)) : ∀ a zs, H a = some (.tup zs) → upd H l (.lst ys) a = some (.tup zs) := fun a zs e => by
  rw [upd_ne (ne_of e h (fun z => nomatch z))]
  exact e
theorem tup_ext {H H' : Hp} {d : Addr} (e : Ext d H H') (D : IsDice H d) : ∀ a zs, H a = some (.tup zs) → H' a = some (.tup zs) := fun a zs h => by
  refine e _ _ (fun x => ?_) h
  obtain ⟨u, v, w, hd⟩ := D
  rw [x, hd] at h
  cases h
section
variable {P : Program} {w : World} {K : PySem.W.Frag} {mg : Str → Option Value} {base : Heap}
theorem ok__law_drawn (T : Txt K mg C_Program) (c__law_pick : Cal P w K mg base "_law_pick" 2 ["_law_dice_here", "_law_items"] (sp__law_pick K)) (c__law_roll : Cal P w K mg base "_law_roll" 1 ["_law_dice_here", "_law_total"] (sp__law_roll K)) (c__law_program_parts : Cal P w K mg base "_law_program_parts" 6 ["_law_program"] (sp__law_program_parts K)) {f : Addr} {fd : FuncData} (F : Fun K "_law_drawn" "_law_drawn" s__law_drawn f fd) (M : mg "_law_drawn" = some (.ref f)) (B : Binds K fd ["_law_dice_here", "_law_bound", "_law_most"] []) : ∀ n : Nat, FnOkG P w K mg base CX0 (7 + n) f fd ["_law_dice_here", "_law_bound", "_law_most"] (spr__law_drawn n K)
  | 0 => by
    refine F.okG sc__law_drawn (fun vs H Q E h => ?_) (fun cdv A outer s H vs Q E hr hG h => ?_) <;> (obtain ⟨_, _, m, _, _, _, _, z, y, _⟩ := h; exact absurd y (by rw [Nat.pow_zero]; omega))
  | n + 1 => by
    have ih := ok__law_drawn T c__law_pick c__law_roll c__law_program_parts F M B n
    have C_self : Cal P w K mg base "_law_drawn" (7 + n) ["_law_dice_here", "_law_bound", "_law_most"] (spr__law_drawn n K) := ⟨f, fd, ih, M, F.kp, B⟩
    have nd := sc__law_drawn.nd
    refine F.okG sc__law_drawn (fun vs H Q E h => ?_) (fun cdv A outer s H vs Q E hr hG h => ?_)
    · obtain ⟨d, bd, m, rfl, _⟩ := h
      rfl
    · obtain ⟨d, bd, m, rfl, hd, n4, lb, m1, m2, q⟩ := h
      have hr : Room (7 + n) (A.deeper (envOfC "_law_drawn" (defScope s__law_drawn) s.heap.objs.size f cdv)) := hr
      refine ⟨_, (pss_cons (ps_par3 (i := 3) (j := 4) (l := 5) (by rfl) nd rfl rfl rfl (by decide) (by decide) (by decide) rfl rfl rfl (pa_cons (pe_callC c__law_pick (hr.mono (by first | decide | omega)) hG rfl (pa_cons (pv 0) (pa_cons (pe_lst (pa_cons pe_int (pa_cons pe_int (pa_cons pe_int (pa_cons pe_int pa_nil))))) pa_nil))) (pa_cons (pe_op op_sub (pv 2) pe_int) (pa_cons (pe_lst pa_nil) pa_nil))) (by rfl))
      (pss_cons (ps_setLcD (i := 6) (own := [("_law_at", 9)]) (by rfl) nd rfl rfl (sw_true rfl rfl rfl (by decide +kernel)) (pi_range1 (by rfl) T.b_range (pa_cons (pe_op op_add (pv 1) (pv 3)) pa_nil)) (blkOk_by (own := [("_law_at", 9)]) (N := ["_law_dice_here", "_law_bound", "_law_most", "_law_binders", "_law_left", "_law_args", "_law_names", "_law_head", "_law_turn", "_law_at"]) (sc := (defScope s__law_drawn)) (by decide +kernel)) (fun _ _ _ _ _ => pg_name (i := 9) nd rfl (Or.inl rfl)) (fun _ _ _ _ _ => pts_nil) (fun _ _ _ _ _ => (pe_op op_add_str pe_str (pe_callTy call_str_int (by rfl) T.b_str (by decide +kernel) (pa_cons (pv 9) pa_nil)))))
      (pss_cons (ps_set (i := 7) nd rfl (.inl rfl) (pe_callC c__law_pick (hr.mono (by first | decide | omega)) hG rfl (pa_cons (pv 0) (pa_cons (pe_op op_cat (pe_op op_cat (pe_lst (pa_cons pe_str (pa_cons pe_str (pa_cons pe_str pa_nil)))) (pv 6)) (pv 6)) pa_nil))))
      (pss_cons (ps_for PassesOwn.never rfl (pi_range1 (by rfl) T.b_range (pa_cons (pe_callC c__law_roll (hr.mono (by first | decide | omega)) hG rfl (pa_cons (pv 0) (pa_cons pe_int pa_nil))) pa_nil)) (pg_name (i := 8) nd rfl (.inl rfl)) (pss_one (ps_if (pt_cmpR op_gt (pv 4) pe_int (nomark _)) (pss_cons (ps_expr (pe_bm PySem.F.plainAttrs_list PySem.F.slot_list_append PySem.F.type_list_append mt_append (pv 5) (pa_cons (pe_callC C_self (hr.mono (by first | decide | omega)) hG rfl (pa_cons (pv 0) (pa_cons (pe_op op_add (pv 1) (pv 3)) (pa_cons (pe_callB (call_max2 rfl) (by rfl) T.b_max (by decide +kernel) (pa_cons pe_int (pa_cons (pe_op op_fdiv (pv 4) pe_int) pa_nil))) pa_nil)))) pa_nil)))
      (pss_one (ps_set (i := 4) nd rfl (.inl rfl) (pe_op op_sub (pv 4) (pe_callB call_len (by rfl) T.b_len (by decide +kernel) (pa_cons (pe_callC c__law_program_parts (hr.mono (by first | decide | omega)) hG rfl (pa_cons (pe_ix ix_list (pv 5) (pe_un un_neg pe_int) (fun _ _ => rfl)) pa_nil)) pa_nil)))))) pss_nil)))
      (pss_one (ps_ret (pe_tup (pa_cons (pv 3) (pa_cons (pv 7) (pa_cons (pe_callTy call_tuple_of (by rfl) T.b_tuple (by decide +kernel) (pa_cons (pv 5) pa_nil)) pa_nil)))))))))), ?_⟩
      refine ⟨.ref d, rfl, lt_line (by show 4 ≤ 1000000; decide), fun l1 hl1 => ?_⟩
      refine ⟨d, l1, _, rfl, hd.new hl1, SqL.of upd_same, hd.ne hl1, by simp, by show 4 < 1000000; decide, fun x H1 hx e1 d1 => ?_⟩
      obtain ⟨b, rfl, b2⟩ := pick_binders hx
      have e1 := ((Ext.refl H).new (o := .lst [V.int 0, V.int 0, V.int 1, V.int 2]) hl1).trans e1
      refine ⟨.int m, rfl, (m : Int), 1, rfl, rfl, Nat.zero_le _, fun li hli => ⟨_, _, _, rfl, ?_⟩⟩
      have nli : li ≠ d := d1.ne hli
      have e2 := e1.new (o := .lst []) hli
      have d2 := d1.new (o := .lst []) hli
      have hL : upd H1 li (.lst []) li = some (.lst []) := upd_same
      have nlH : H li = none := by
        cases e : H li with
        | none => rfl
        | some o =>
          have := e1 li o nli e
          rw [hli] at this
          cases this
      generalize upd H1 li (.lst []) = G at e2 d2 hL ⊢
      dsimp only [List.set]
      refine cut_set (fun v H' => ∃ N, v = .ref N ∧ H' N = some (.lst (((List.range (bd + b)).map fun j => ("x" : Str) ++ (toString ((j : Nat) : Int) : Str)).map V.str)) ∧ N ≠ d ∧ N ≠ li ∧ Same G H') (fun Q' hQ => ?_) ?_
      · refine ⟨.int (bd : Nat), rfl, .int (b : Nat), rfl, (bd : Int), (b : Int), rfl, rfl, (bd : Int) + (b : Int), rfl, by omega, by omega, fun D hD => ?_⟩
        rw [show ((bd : Int) + (b : Int)).toNat = bd + b by omega]
        have nDd : D ≠ d := d2.ne hD
        have nDl : D ≠ li := (ne_of_none hL hD).symm
        refine lc_range (lo := 0) (n := bd + b) (fun i' H' => H' D = some (.lst (((List.range i').map fun j => ("x" : Str) ++ (toString ((j : Nat) : Int) : Str)).map V.str)) ∧ Same G H') ?_ (fun i' H5 hi2 hP => ?_) (fun H5 hP => ?_)
        · exact ⟨upd_same, (Same.refl G).mut hD⟩
        · obtain ⟨hD1, s7⟩ := hP
          refine ⟨rfl, tyes ?_⟩
          have ei : (0 : Int) + (i' : Int) = ((i' : Nat) : Int) := by omega
          rw [ei]
          refine ⟨.int (i' : Nat), rfl, ((i' : Nat) : Int), rfl, log_lev (by omega), "x", _, rfl, rfl, lt_line ?_, _, hD1, lt_line' ?_, ?_, s7.mut hD⟩
          · have this : (toString ((i' : Nat) : Int) : Str).length ≤ 3 := lev_len ⟨i', by omega⟩
            have e : ("x" : Str).length = 1 := rfl
            omega
          · rw [List.length_map, List.length_map, List.length_range]
            omega
          · rw [upd_same, List.range_succ, List.map_append, List.map_append]
            rfl
        · obtain ⟨hD1, s7⟩ := hP
          exact hQ _ _ ⟨D, rfl, hD1, nDd, nDl, s7⟩
      rintro v H2 ⟨N, rfl, hN, nNd, nNl, s2⟩
      have e3 := e2.trans (Ext.same s2)
      have d3 := d2.same s2
      have hL := s2 _ _ hL
      clear s2
      have lnm : (((List.range (bd + b)).map fun j => ("x" : Str) ++ (toString ((j : Nat) : Int) : Str)).map V.str).length = bd + b := by rw [List.length_map, List.length_map, List.length_range]
      generalize enm : ((List.range (bd + b)).map fun j => ("x" : Str) ++ (toString ((j : Nat) : Int) : Str)) = nm at hN lnm
      refine cut_set (fun v H' => ∃ h, v = .str h ∧ h ∈ headsF ((bd + b : Nat) : Int) ∧ Ext d H2 H' ∧ IsDice H' d) (fun Q' hQ => ?_) ?_
      · refine ⟨.ref d, rfl, lt_line (by show 3 ≤ 1000000; decide), fun c1 hc1 => ⟨.ref N, rfl, c1, N, _, _, rfl, rfl, upd_same, (upd_ne (ne_of_none hN hc1)).trans hN, lt_line (by rw [lnm]; show 3 + _ ≤ 1000000; omega), fun c2 hc2 => ?_⟩⟩
        have x1 := (Ext.refl H2 (d := d)).new (o := .lst [V.str "f", .str "g", .str "cons"]) hc1
        have k1 := d3.new (o := .lst [V.str "f", .str "g", .str "cons"]) hc1
        have hN1 := (upd_ne (o := .lst [V.str "f", .str "g", .str "cons"]) (ne_of_none hN hc1)).trans hN
        generalize upd H2 c1 (.lst [V.str "f", .str "g", .str "cons"]) = G5 at x1 k1 hN1 hc2 ⊢
        refine ⟨.ref N, rfl, c2, N, _, _, rfl, rfl, upd_same, (upd_ne (ne_of_none hN1 hc2)).trans hN1, lt_line (by rw [List.length_append, lnm]; show 3 + _ + _ ≤ 1000000; omega), fun c3 hc3 => ?_⟩
        have x2 := x1.new (o := .lst ([V.str "f", .str "g", .str "cons"] ++ nm.map V.str)) hc2
        have k2 := k1.new (o := .lst ([V.str "f", .str "g", .str "cons"] ++ nm.map V.str)) hc2
        generalize upd G5 c2 (.lst ([V.str "f", .str "g", .str "cons"] ++ nm.map V.str)) = G6 at x2 k2 hc3 ⊢
        refine ⟨d, c3, _, rfl, k2.new hc3, SqL.of upd_same, k2.ne hc3, by simp, by rw [List.length_append, List.length_append, lnm]; show 3 + _ + _ < 1000000; omega, fun x H3 hx e4 d4 => ?_⟩
        have hh : ∃ h, x = .str h ∧ h ∈ headsF ((bd + b : Nat) : Int) := by
          have e : headsF ((bd + b : Nat) : Int) = (["f", "g", "cons"] : List Str) ++ nm := by
            unfold headsF
            rw [← enm]
            rfl
          rw [e]
          have hx : x ∈ (([V.str "f", .str "g", .str "cons"] ++ nm.map V.str) ++ nm.map V.str) := hx
          have hx2 : x ∈ ((["f", "g", "cons"] : List Str) ++ nm).map V.str := by
            rw [List.map_append]
            rcases List.mem_append.mp hx with z | z
            · exact z
            · exact List.mem_append_right _ z
          obtain ⟨h, hm, rfl⟩ := List.mem_map.mp hx2
          exact ⟨h, rfl, hm⟩
        obtain ⟨h, rfl, hm⟩ := hh
        exact hQ _ _ ⟨h, rfl, hm, (x2.new hc3).trans e4, d4⟩
      rintro v H3 ⟨h, rfl, hm, e4, d4⟩
      have e5 := e3.trans e4
      have hL := e4 _ _ nli hL
      clear e3 e4 d3
      have p2 : 2 ^ (n + 1) = 2 ^ n * 2 := Nat.pow_succ ..
      have p16 : 2 ^ n ≤ 16 := Nat.le_trans (Nat.pow_le_pow_right (i := n) (j := 4) (by decide) (by omega)) (by decide)
      refine cut_for (fun σ' H' => ∃ L s8 ts rs, σ' = [some (.ref d), some (.int (bd : Nat)), some (.int (m : Nat)), some (.int (b : Nat)), some (.int L), some (.ref li), some (.ref N), some (.str h), s8, none] ∧ H' li = some (.lst rs) ∧ IsGs H' ts rs ∧ ts.length ≤ 3 ∧ Pg.GoodL (bd + b) ts ∧ Pg.depthL ts ≤ n ∧ (Pg.nodesL ts).length + 1 ≤ m ∧ Ext d H H' ∧ IsDice H' d) (fun Nn hNn => ?_) ?_
      · refine ⟨.ref d, rfl, d, 4, rfl, d4, by decide, by decide, fun r H4 r0 r1 e6 d5 => ?_⟩
        refine ⟨r, rfl, by omega, by omega, for_range (lo := 0) (fun i σ' H' => ∃ L s8 ts rs, σ' = [some (.ref d), some (.int (bd : Nat)), some (.int (m : Nat)), some (.int (b : Nat)), some (.int L), some (.ref li), some (.ref N), some (.str h), s8, none] ∧ 0 ≤ L ∧ L + (Pg.nodesL ts).length + 1 = (m : Int) ∧ H' li = some (.lst rs) ∧ IsGs H' ts rs ∧ ts.length ≤ i ∧ Pg.GoodL (bd + b) ts ∧ Pg.depthL ts ≤ n ∧ Ext d H H' ∧ IsDice H' d) ?_ (fun i σ' H' hi hP => ?_) (fun σ' H' hP => ?_)⟩
        · exact ⟨_, _, [], [], rfl, by omega, by rw [Pg.nodesL]; show (m : Int) - 1 + 0 + 1 = m; omega, e6 _ _ nli hL, by rw [IsGs], Nat.le_refl _, by rw [Pg.GoodL]; trivial, by rw [Pg.depthL]; exact Nat.zero_le _, e5.trans e6, d5⟩
        · obtain ⟨L, s8, ts, rs, rfl, L0, Lm, hl, hg, lt3, gd, dp, e7, d7⟩ := hP
          have lrs := hg.len
          refine asg_go2 ?_
          dsimp only [List.set]
          refine ⟨.int L, rfl, L, 0, rfl, rfl, _, rfl, ite2 (fun c => ?_) (fun c => ?_)⟩
          · have Lp : 0 < L := of_decide_eq_true c
            have emm : (if L / 2 > 1 then L / 2 else 1) = (((if L / 2 > 1 then L / 2 else 1).toNat : Nat) : Int) := by
              split <;> omega
            have m12 : 1 ≤ (if L / 2 > 1 then L / 2 else 1).toNat := by split <;> omega
            have m13 : (if L / 2 > 1 then L / 2 else 1).toNat < 2 ^ n := by split <;> omega
            have m14 : (if L / 2 > 1 then L / 2 else 1).toNat ≤ L.toNat := by split <;> omega
            refine ⟨.ref li, rfl, .inl ⟨rfl, _, SqL.of hl⟩, .ref d, rfl, .int (bd : Nat), rfl, .int (b : Nat), rfl, (bd : Int), (b : Int), rfl, rfl, .int L, rfl, L, 2, rfl, rfl, ⟨by decide, by decide⟩, 1, L / 2, rfl, ?_⟩
            generalize (if L / 2 > 1 then L / 2 else 1) = mm at emm m12 m13 m14 ⊢
            rw [emm]
            refine ⟨d, bd + b, mm.toNat, rfl, d7, by omega, by omega, m12, m13, fun v t H5 hv gt nt dt e8 d8 => ?_⟩
            have hl5 := e8 _ _ nli hl
            have hg5 := IsGs.tup (tup_ext e8 d7) _ _ hg
            refine ⟨li, rs, v, rfl, rfl, hl5, lt_line' (by omega), ?_⟩
            have k := tup_lst (ys := rs ++ [v]) hl5
            have hv6 := hv.tup k
            have hg6 := IsGs.tup k _ _ hg5
            have e9 := (e7.trans e8).mut (o := .lst (rs ++ [v])) nlH
            have d9 := d8.mut (o := .lst (rs ++ [v])) nli
            refine ⟨.int L, rfl, .ref li, rfl, 1, rfl, li, _, _, v, rfl, rfl, SqL.of upd_same, atI_last _ _, v, t, rfl, hv6, by omega, by omega, fun p5 ys H6 s6 np hp5 ly => ?_⟩
            refine ⟨.ref p5, ys.length, rfl, .inl ⟨_, SqL.of hp5, rfl⟩, L, _, rfl, rfl, ?_⟩
            have nl2 : (Pg.nodesL (ts ++ [t])).length = (Pg.nodesL ts).length + t.nodes.length := by
              rw [Pg.nodesL_append, Pg.nodesL, Pg.nodesL, List.append_nil, List.length_append]
            refine ⟨L - (ys.length : Nat), _, ts ++ [t], rs ++ [v], rfl, by omega, by omega, s6 _ _ upd_same, ?_, by rw [List.length_append, List.length_singleton]; omega, ?_, Pg.depthL_app ts t n dp dt, e9.trans (Ext.same s6), d9.same s6⟩
            · exact (hg6.app hv6).tup fun a zs e => s6 _ _ e
            · exact Pg.goodL_app gd (by rw [Pg.GoodL, Pg.GoodL]; exact ⟨gt, trivial⟩)
          · exact ⟨L, _, ts, rs, rfl, L0, Lm, hl, hg, by omega, gd, dp, e7, d7⟩
        · obtain ⟨L, s8, ts, rs, rfl, L0, Lm, hl, hg, lt3, gd, dp, e7, d7⟩ := hP
          exact hNn _ _ ⟨L, _, ts, rs, rfl, hl, hg, by omega, gd, dp, by omega, e7, d7⟩
      rintro σ' H' ⟨L, s8, ts, rs, rfl, hl, hg, l3, gd, dp, fw, e7, d7⟩
      refine ⟨.int (b : Nat), rfl, .str h, rfl, .ref li, rfl, li, rs, rfl, .inl ⟨SqL.of hl, fun p1 hp1 => ⟨by show 3 ≤ sizeLine; decide, fun p2 hp2 => ?_⟩⟩⟩
      have x1 := (Same.refl H').new (o := .tup rs) hp1
      have h1 : upd H' p1 (.tup rs) p1 = some (.tup rs) := upd_same
      have e8 := e7.new (o := .tup rs) hp1
      have d8 := d7.new (o := .tup rs) hp1
      generalize upd H' p1 (.tup rs) = G7 at x1 h1 e8 d8 hp2 ⊢
      have x2 := x1.new (o := .tup [.int (b : Nat), .str h, .ref p1]) hp2
      refine q (.ref p2) (.mk b h ts) _ ?_ ?_ ?_ ?_ (e8.new hp2) (d8.new hp2)
      · rw [IsG]
        exact ⟨p2, p1, rs, rfl, upd_same, (upd_ne (ne_of_none h1 hp2)).trans h1, hg.tup fun a zs e => x2 _ _ e⟩
      · rw [Pg.Good]
        exact ⟨b2, hm, l3, gd⟩
      · rw [Pg.nodes]
        exact fw
      · rw [Pg.depth]
        omega
end


end My
namespace My
open PySem PySem.Spec PyProof.Rows L2 TL
set_option pp.maxSteps 3000
set_option pp.deepTerms false
/-! ### a drawn program's nodes are fine -/
theorem heads_up {h : Str} {n m : Int} (nm : n ≤ m) (hm : h ∈ headsF n) : h ∈ headsF m := by
  unfold headsF at hm ⊢
  rcases List.mem_append.mp hm with hm | hm
  · exact List.mem_append_left _ hm
  · obtain ⟨j, hj, rfl⟩ := List.mem_map.mp hm
    have hj := List.mem_range.mp hj
    exact List.mem_append_right _ (List.mem_map.mpr ⟨j, List.mem_range.mpr (by omega), rfl⟩)
theorem heads_all : (headsF 100).all (fun h => decide (h.length ≤ 5) && h.cps.toList.all (fun c => decide (c < 128)) && (!isW (.str h) || decide (h ∈ (["f", "g", "cons"] : List Str)))) = true := by decide +kernel
theorem heads_facts {h : Str} {n : Int} (n1 : n ≤ 100) (hm : h ∈ headsF n) : h.length ≤ 100 ∧ (∀ c ∈ h.cps.toList, c < 128) ∧ HeadOK h := by
  have := List.all_eq_true.mp heads_all h (heads_up n1 hm)
  obtain ⟨h1, h2⟩ := Bool.and_eq_true_iff.mp this
  obtain ⟨h3, h4⟩ := Bool.and_eq_true_iff.mp h1
  refine ⟨Nat.le_trans (of_decide_eq_true h3) (by decide), fun c hc => of_decide_eq_true (List.all_eq_true.mp h4 c hc), fun w => ?_⟩
  rw [w, Bool.not_true, Bool.false_or] at h2
  exact of_decide_eq_true h2
theorem cnt_nat {b : Nat} (h : b ≤ 15) : isCnt ((b : Nat) : Int) = true := by
  unfold isCnt
  rw [decide_eq_true (show (0 : Int) ≤ (b : Int) by omega), decide_eq_true (show (b : Int) ≤ 15 by omega)]
  rfl
theorem goF_cons {d l b m : Int} {h : Str} {R : List (Int × Int)} {r : List N3} : goF ((d, l) :: R) (some (b, h, m) :: r) = if (isCnt b && isCnt m) && decide (h ∈ headsF (d + b)) then goF ((if m > 0 then [(d + b, m)] else []) ++ ((if l > 1 then [(d, l - 1)] else []) ++ R)) r else false := rfl
mutual
theorem goF_tree : ∀ (t : Pg) (bd : Nat) (l : Int) (R : List (Int × Int)) (rest : List N3), t.Good bd → goF (((bd : Int), l) :: R) (t.nodes.map some ++ rest) = goF ((if l > 1 then [((bd : Int), l - 1)] else []) ++ R) rest
  | .mk b h as, bd, l, R, rest, gd => by
    rw [Pg.Good] at gd
    obtain ⟨b2, hh, l3, ga⟩ := gd
    rw [Pg.nodes, List.map_cons, List.cons_append, goF_cons, cnt_nat (by omega), cnt_nat (by omega), show (bd : Int) + (b : Int) = ((bd + b : Nat) : Int) by omega, decide_eq_true hh]
    exact goF_trees as (bd + b) _ rest ga
theorem goF_trees : ∀ (as : List Pg) (bd : Nat) (R : List (Int × Int)) (rest : List N3), Pg.GoodL bd as → goF ((if (as.length : Int) > 0 then [((bd : Int), (as.length : Int))] else []) ++ R) ((Pg.nodesL as).map some ++ rest) = goF R rest
  | [], bd, R, rest, _ => by
    rw [Pg.nodesL]
    rfl
  | t :: r, bd, R, rest, ga => by
    rw [Pg.GoodL] at ga
    rw [Pg.nodesL, List.map_append, List.append_assoc, if_pos (by rw [List.length_cons]; omega)]
    refine (goF_tree t bd _ R _ ga.1).trans ?_
    have ih := goF_trees r bd R rest ga.2
    rw [← ih]
    by_cases e : (r.length : Int) > 0
    · rw [if_pos e, if_pos (by rw [List.length_cons]; omega), show (((t :: r).length : Nat) : Int) - 1 = (r.length : Int) by rw [List.length_cons]; omega]
    · rw [if_neg e, if_neg (by rw [List.length_cons]; omega)]
end
mutual
theorem Pg.good_mem : ∀ (t : Pg) (bd : Nat), t.Good bd → ∀ m ∈ t.nodes, (0 ≤ m.1 ∧ m.1 ≤ 2) ∧ m.2.1 ∈ headsF ((bd + 2 * t.depth : Nat) : Int)
  | .mk b h as, bd, gd, m, hm => by
    rw [Pg.Good] at gd
    obtain ⟨b2, hh, l3, ga⟩ := gd
    rw [Pg.nodes] at hm
    rw [Pg.depth]
    rcases List.mem_cons.mp hm with rfl | hm
    · exact ⟨⟨by show (0 : Int) ≤ (b : Int); omega, by show (b : Int) ≤ 2; omega⟩, heads_up (by omega) hh⟩
    · obtain ⟨h1, h2⟩ := Pg.goodL_mem as (bd + b) ga m hm
      exact ⟨h1, heads_up (by omega) h2⟩
theorem Pg.goodL_mem : ∀ (l : List Pg) (bd : Nat), Pg.GoodL bd l → ∀ m ∈ Pg.nodesL l, (0 ≤ m.1 ∧ m.1 ≤ 2) ∧ m.2.1 ∈ headsF ((bd + 2 * Pg.depthL l : Nat) : Int)
  | [], bd, _, m, hm => by
    rw [Pg.nodesL] at hm
    cases hm
  | t :: r, bd, ga, m, hm => by
    rw [Pg.GoodL] at ga
    rw [Pg.nodesL] at hm
    rw [Pg.depthL]
    rcases List.mem_append.mp hm with hm | hm
    · obtain ⟨h1, h2⟩ := Pg.good_mem t bd ga.1 m hm
      exact ⟨h1, heads_up (by have := Nat.le_max_left t.depth (Pg.depthL r); omega) h2⟩
    · obtain ⟨h1, h2⟩ := Pg.goodL_mem r bd ga.2 m hm
      exact ⟨h1, heads_up (by have := Nat.le_max_right t.depth (Pg.depthL r); omega) h2⟩
end
theorem tb_two : ∀ ms : List (Int × Str × Int), (∀ m ∈ ms, 0 ≤ m.1 ∧ m.1 ≤ 2) → tb (ms.map some) ≤ 2 * (ms.length : Nat)
  | [], _ => Int.le_refl _
  | (b, h, m) :: r, k => by
    have ih := tb_two r fun x hx => k x (List.mem_cons_of_mem _ hx)
    have b1 : 0 ≤ b ∧ b ≤ 2 := k _ List.mem_cons_self
    show (if isCnt b then b else 0) + tb (r.map some) ≤ _
    rw [List.length_cons]
    split <;> omega
/-- what is known of the nodes that are bent -/
def FineAt (k : Int) (ms : List (Int × Str × Int)) : Prop := (1 ≤ ms.length ∧ ms.length < 20) ∧ tb (ms.map some) ≤ k ∧ ∀ b h m, (b, h, m) ∈ ms → HeadOK h
theorem good_fine {t : Pg} (g : t.Good 0) (n12 : t.nodes.length ≤ 12) (d4 : t.depth ≤ 4) : FineAt 24 t.nodes ∧ fineF (t.nodes.map some) = true ∧ ∀ m ∈ t.nodes, m.2.1.length ≤ 100 ∧ ∀ c ∈ m.2.1.cps.toList, c < 128 := by
  have mem := Pg.good_mem t 0 g
  have one : 1 ≤ t.nodes.length := by
    cases t with
    | mk b h as =>
      rw [Pg.nodes, List.length_cons]
      omega
  have tw := tb_two t.nodes fun m hm => (mem m hm).1
  have fs : ∀ m ∈ t.nodes, m.2.1.length ≤ 100 ∧ (∀ c ∈ m.2.1.cps.toList, c < 128) ∧ HeadOK m.2.1 := fun m hm => heads_facts (by omega) (mem m hm).2
  refine ⟨⟨⟨one, by omega⟩, by omega, fun b h m hm => (fs _ hm).2.2⟩, ?_, fun m hm => ⟨(fs m hm).1, (fs m hm).2.1⟩⟩
  unfold fineF
  rw [List.length_map, decide_eq_true one, decide_eq_true (show t.nodes.length ≤ 40 by omega), Bool.and_self, Bool.true_and]
  have e := goF_tree t 0 1 [] [] g
  rw [List.append_nil] at e
  exact e


end My
namespace My
open PySem PySem.Spec PyProof.Rows L2 TL
set_option pp.maxSteps 3000
set_option pp.deepTerms false
/-! ### near ones -/
theorem tb_app : ∀ a b : List N3, tb (a ++ b) = tb a + tb b
  | [], b => by
    show tb b = 0 + tb b
    omega
  | some (x, h, m) :: r, b => by
    show (if isCnt x then x else 0) + tb (r ++ b) = ((if isCnt x then x else 0) + tb r) + tb b
    rw [tb_app r b]
    omega
  | none :: r, b => tb_app r b
theorem NdsV.take {K : PySem.W.Frag} {H : Hp} : ∀ {xs : List V} {ns : List N3} (i : Nat), NdsV K H xs ns → NdsV K H (xs.take i) (ns.take i)
  | [], [], i, _ => by
    rw [List.take_nil, List.take_nil]
    trivial
  | [], _ :: _, _, h => h.elim
  | _ :: _, [], _, h => h.elim
  | _ :: _, _ :: _, 0, _ => trivial
  | _ :: _, _ :: _, i + 1, ⟨a, r⟩ => ⟨a, NdsV.take i r⟩
theorem NdsV.drop {K : PySem.W.Frag} {H : Hp} : ∀ {xs : List V} {ns : List N3} (i : Nat), NdsV K H xs ns → NdsV K H (xs.drop i) (ns.drop i)
  | [], [], i, _ => by
    rw [List.drop_nil, List.drop_nil]
    trivial
  | [], _ :: _, _, h => h.elim
  | _ :: _, [], _, h => h.elim
  | _ :: _, _ :: _, 0, h => h
  | _ :: _, _ :: _, i + 1, ⟨a, r⟩ => NdsV.drop i r
def Near (k : Int) (ns : List N3) : Prop := ns.length ≤ 20 ∧ tb ns ≤ k ∧ ∀ b h m, some (b, h, m) ∈ ns → HeadOK h
/-- rows with something in their midst -/
theorem near_mid {K : PySem.W.Frag} {H : Hp} {xs : List V} {ms : List (Int × Str × Int)} {k : Int} (hn : NdsV K H xs (ms.map some)) (fine : FineAt k ms) {ys : List V} {zs : List N3} (hy : NdsV K H ys zs) (l1 : zs.length ≤ 1) (i j : Nat) (ij : i ≤ j)
    (t1 : tb zs ≤ 1 + tb ((ms.map some).drop i) - tb ((ms.map some).drop j)) (hh : ∀ b h m, some (b, h, m) ∈ zs → HeadOK h) :
    NdsV K H (xs.take i ++ ys ++ xs.drop j) ((ms.map some).take i ++ zs ++ (ms.map some).drop j) ∧ Near (k + 1) ((ms.map some).take i ++ zs ++ (ms.map some).drop j) := by
  obtain ⟨⟨_, lm⟩, tm, hm⟩ := fine
  refine ⟨((hn.take i).app hy).app (hn.drop j), ?_, ?_, fun b h m hb => ?_⟩
  · rw [List.length_append, List.length_append, List.length_take, List.length_drop, List.length_map]
    omega
  · rw [tb_app, tb_app]
    have e : tb ((ms.map some).take i) + tb ((ms.map some).drop i) = tb (ms.map some) := by rw [← tb_app, List.take_append_drop]
    omega
  · have some_mem : ∀ l : List N3, (∀ x ∈ l, x ∈ ms.map some) → some (b, h, m) ∈ l → HeadOK h := fun l sub hx => by
      obtain ⟨y, hy, e⟩ := List.mem_map.mp (sub _ hx)
      cases e
      exact hm _ _ _ hy
    rcases List.mem_append.mp hb with hb | hb
    · rcases List.mem_append.mp hb with hb | hb
      · exact some_mem _ (fun x hx => List.mem_of_mem_take hx) hb
      · exact hh _ _ _ hb
    · exact some_mem _ (fun x hx => List.mem_of_mem_drop hx) hb
theorem tb_drop_le (ns : List N3) {i j : Nat} (ij : i ≤ j) : tb (ns.drop j) ≤ tb (ns.drop i) := by
  have e : ns.drop i = (ns.drop i).take (j - i) ++ ns.drop j := by
    have := (List.take_append_drop (j - i) (ns.drop i)).symm
    rw [List.drop_drop, show i + (j - i) = j by omega] at this
    exact this
  rw [e, tb_app]
  have := tb_nonneg ((ns.drop i).take (j - i))
  omega
/-- something odd -/
def OddN (n : N3) : Prop := tb [n] ≤ 1 ∧ ∀ b h m, n = some (b, h, m) → HeadOK h
def OddX (K : PySem.W.Frag) (d L : Addr) (H : Hp) (x : V) : N3 → Prop
  | some (b, h, m) => NdV K H x (some (b, h, m))
  | none => (x = .non ∨ ∃ q ys, x = .ref q ∧ H q = some (.lst ys) ∧ q ≠ d ∧ q ≠ L) ∨ (∃ q xs, x = .ref q ∧ H q = some (.tup xs) ∧ xs.length ≠ 3 ∧ xs.length ≤ 10) ∨
    (∃ q y i j, x = .ref q ∧ H q = some (.tup [.str y, .int i, .int j]) ∧ y.length ≤ 1000) ∨ (∃ q b h m, x = .ref q ∧ H q = some (.tup [.bl b, .str h, .int m]))
theorem OddX.keep {K : PySem.W.Frag} {d L : Addr} {H H' : Hp} (t : ∀ a xs, H a = some (.tup xs) → H' a = some (.tup xs)) (l : ∀ a ys, a ≠ d → a ≠ L → H a = some (.lst ys) → H' a = some (.lst ys)) {x : V} : ∀ {n : N3}, OddX K d L H x n → OddX K d L H' x n
  | some (_, _, _), ⟨q, e, h, r⟩ => ⟨q, e, t _ _ h, r⟩
  | none, .inl (.inl e) => .inl (.inl e)
  | none, .inl (.inr ⟨q, ys, e, h, n1, n2⟩) => .inl (.inr ⟨q, ys, e, l _ _ n1 n2 h, n1, n2⟩)
  | none, .inr (.inl ⟨q, xs, e, h, r⟩) => .inr (.inl ⟨q, xs, e, t _ _ h, r⟩)
  | none, .inr (.inr (.inl ⟨q, x, i, j, e, h, r⟩)) => .inr (.inr (.inl ⟨q, x, i, j, e, t _ _ h, r⟩))
  | none, .inr (.inr (.inr ⟨q, b, h, m, e, hq⟩)) => .inr (.inr (.inr ⟨q, b, h, m, e, t _ _ hq⟩))
theorem OddX.nd {K : PySem.W.Frag} {d L : Addr} {H : Hp} {x : V} : ∀ {n : N3}, OddX K d L H x n → NdV K H x n
  | some (_, _, _), h => h
  | none, .inl (.inl e) => .inl ⟨.type "NoneType", fun _ _ => by rw [e]; exact .base .non, kit_ty (by decide +kernel)⟩
  | none, .inl (.inr ⟨q, ys, e, h, _⟩) => .inl ⟨.type "list", fun _ s => by rw [e]; exact .base (.lst (s _ _ h)), kit_ty (by decide +kernel)⟩
  | none, .inr (.inl h) => .inr (.inl h)
  | none, .inr (.inr (.inl h)) => .inr (.inr (.inl h))
  | none, .inr (.inr (.inr h)) => .inr (.inr (.inr h))
def OddsV (K : PySem.W.Frag) (d L : Addr) (H : Hp) (xs : List V) : Prop := ∀ x ∈ xs, ∃ n, OddX K d L H x n ∧ OddN n
theorem OddsV.keep {K : PySem.W.Frag} {d L : Addr} {H H' : Hp} (t : ∀ a xs, H a = some (.tup xs) → H' a = some (.tup xs)) (l : ∀ a ys, a ≠ d → a ≠ L → H a = some (.lst ys) → H' a = some (.lst ys)) {xs : List V} (h : OddsV K d L H xs) : OddsV K d L H' xs := fun x hx => by
  obtain ⟨n, h1, h2⟩ := h x hx
  exact ⟨n, h1.keep t l, h2⟩
theorem OddsV.same {K : PySem.W.Frag} {d L : Addr} {H H' : Hp} (s : Same H H') {xs : List V} (h : OddsV K d L H xs) : OddsV K d L H' xs := h.keep (fun _ _ e => s _ _ e) fun _ _ _ _ e => s _ _ e
theorem OddsV.nil {K : PySem.W.Frag} {d L : Addr} {H : Hp} : OddsV K d L H [] := fun _ hx => nomatch hx
theorem OddsV.snoc {K : PySem.W.Frag} {d L : Addr} {H : Hp} {x : V} {xs : List V} {n : N3} (h : OddsV K d L H xs) (h1 : OddX K d L H x n) (h2 : OddN n) : OddsV K d L H (xs ++ [x]) := fun y hy => by
  rcases List.mem_append.mp hy with hy | hy
  · exact h y hy
  · rw [List.mem_singleton.mp hy]
    exact ⟨n, h1, h2⟩
theorem OddsV.app {K : PySem.W.Frag} {d L : Addr} {H : Hp} {xs ys : List V} (a : OddsV K d L H xs) (b : OddsV K d L H ys) : OddsV K d L H (xs ++ ys) := fun y hy => by
  rcases List.mem_append.mp hy with hy | hy
  · exact a y hy
  · exact b y hy
theorem odd_none : OddN none := ⟨by decide, fun _ _ _ z => nomatch z⟩
theorem headOK_of {h : Str} (e : (!isW (.str h) || decide (h ∈ (["f", "g", "cons"] : List Str))) = true) : HeadOK h := fun w => by
  rw [w, Bool.not_true, Bool.false_or] at e
  exact of_decide_eq_true e
theorem odd_some {b m : Int} {h : Str} (t : tb [some (b, h, m)] ≤ 1) (e : (!isW (.str h) || decide (h ∈ (["f", "g", "cons"] : List Str))) = true) : OddN (some (b, h, m)) := ⟨t, fun _ _ _ z => by cases z; exact headOK_of e⟩
theorem nd_some {K : PySem.W.Frag} {H : Hp} {q : Addr} {b m : Int} {h : Str} (hq : H q = some (.tup [.int b, .str h, .int m])) (e : (decide (h.length ≤ 100) && h.cps.toList.all fun c => decide (c < 128)) = true) : NdV K H (.ref q) (some (b, h, m)) := by
  obtain ⟨h1, h2⟩ := Bool.and_eq_true_iff.mp e
  exact ⟨q, rfl, hq, of_decide_eq_true h1, fun c hc => of_decide_eq_true (List.all_eq_true.mp h2 c hc)⟩
theorem shaped_nodes {K : PySem.W.Frag} {H : Hp} {xs : List V} {ms : List (Int × Str × Int)} (h : NdsV K H xs (ms.map some)) : SeqAt.shaped (.list ((ms.map some).map dataN)) = true := by
  obtain ⟨h1, h2⟩ := lay_nodes h
  unfold SeqAt.shaped
  rw [PyData.canLay0, h1, Bool.true_and, PyData.depth]
  exact decide_eq_true (by omega)
theorem eqv_none {ds : List PyData} (h : 1 ≤ ds.length) : (!PyData.eqv (.list ds) (.list [])) = true := by
  cases ds with
  | nil => exact absurd h (by decide)
  | cons a r => simp [PyData.eqv, PyData.eqvAll]
theorem ixat18 {n : Nat} {r : Int} (h0 : 0 ≤ r) (h1 : r < n) : ixN n r = some r.toNat := by
  unfold ixN
  rw [if_pos h0, if_pos h1]
theorem cut_take18 (xs : List V) (n : Nat) : cutV xs none (some (n : Int)) = xs.take n := by
  unfold cutV
  rw [HT.sIx_nat, HT.sIx_none, List.drop_zero, Nat.sub_zero]
  by_cases h : n ≤ xs.length
  · rw [Nat.min_eq_left h]
  · rw [Nat.min_eq_right (by omega), List.take_length, List.take_of_length_le (by omega)]
theorem cut_drop18 (xs : List V) (n : Nat) : cutV xs (some (n : Int)) none = xs.drop n := by
  unfold cutV
  rw [HT.sIx_nat, HT.sIx_none]
  by_cases h : n ≤ xs.length
  · rw [Nat.min_eq_left h]
    exact List.take_of_length_le (by rw [List.length_drop]; exact Nat.le_refl _)
  · rw [Nat.min_eq_right (by omega), List.drop_length, List.take_nil, List.drop_eq_nil_of_le (by omega)]
def sp__law_bent (K : PySem.W.Frag) : Sp := fun vs H Q _ => ∃ d l xs ms k, vs = [.ref d, .ref l] ∧ IsDice H d ∧ l ≠ d ∧ H l = some (.lst xs) ∧ NdsV K H xs (ms.map some) ∧ FineAt k ms ∧
  ∀ p ys ns H', Ext d H H' → IsDice H' d → p ≠ d → H' p = some (.lst ys) → NdsV K H' ys ns → Near (k + 1) ns → Q (.ref p) H'
section
variable {P : Program} {w : World} {K : PySem.W.Frag} {mg : Str → Option Value} {base : Heap} {C_Program : Addr}
theorem ok__law_bent (T : Txt K mg C_Program) (c__law_roll : Cal P w K mg base "_law_roll" 1 ["_law_dice_here", "_law_total"] (sp__law_roll K)) (c__law_pick : Cal P w K mg base "_law_pick" 2 ["_law_dice_here", "_law_items"] (sp__law_pick K)) {f : Addr} {fd : FuncData} (F : Fun K "_law_bent" "_law_bent" s__law_bent f fd) : FnOkG P w K mg base CX0 3 f fd ["_law_dice_here", "_law_nodes"] (sp__law_bent K) := by
  have nd := sc__law_bent.nd
  refine F.okG sc__law_bent (fun vs H Q E h => ?_) (fun cdv A outer s H vs Q E hr hG h => ?_)
  · obtain ⟨d, l, xs, ms, k, rfl, _⟩ := h
    rfl
  · obtain ⟨d, l, xs, ms, k, rfl, hd, nld, hl, hn, fine, q⟩ := h
    refine ⟨_, (pss_cons (ps_par3 (i := 2) (j := 3) (l := 4) (by rfl) nd rfl rfl rfl (by decide) (by decide) (by decide) rfl rfl rfl (pa_cons (pe_callTy call_list_of (by rfl) T.b_list (by decide +kernel) (pa_cons (pv 1) pa_nil)) (pa_cons (pe_callC c__law_roll (hr.mono (by first | decide | omega)) hG rfl (pa_cons (pv 0) (pa_cons (pe_op op_add (pe_callB call_len (by rfl) T.b_len (by decide +kernel) (pa_cons (pv 1) pa_nil)) pe_int) pa_nil))) (pa_cons (pe_callC c__law_roll (hr.mono (by first | decide | omega)) hG rfl (pa_cons (pv 0) (pa_cons pe_int pa_nil))) pa_nil))) (by rfl))
      (pss_cons (ps_asg (pe_ifExp (pt_cmpR (op_neD hr.units) (pv 2) (pe_lst pa_nil) (nomark _)) (pe_ix ix_list (pv 2) (pe_op op_mod (pv 3) (pe_callB call_len (by rfl) T.b_len (by decide +kernel) (pa_cons (pv 2) pa_nil))) (fun _ _ => rfl)) (pe_tup (pa_cons pe_int (pa_cons pe_str (pa_cons pe_int pa_nil))))) (pg_tup (by rfl) (pgs_cons (pg_name (i := 5) nd rfl (.inl rfl)) (pgs_cons (pg_name (i := 6) nd rfl (.inl rfl)) (pgs_cons (pg_name (i := 7) nd rfl (.inl rfl)) pgs_nil)))))
      (pss_cons (ps_set (i := 8) nd rfl (.inl rfl) (pe_lst (pa_cons (pe_tup (pa_cons pe_str (pa_cons pe_int (pa_cons pe_int pa_nil)))) (pa_cons (pe_tup (pa_cons pe_int (pa_cons pe_str pa_nil))) (pa_cons (pe_tup (pa_cons pe_int (pa_cons pe_str (pa_cons pe_int (pa_cons pe_int pa_nil))))) (pa_cons (pe_lst (pa_cons pe_int (pa_cons pe_str (pa_cons pe_int pa_nil)))) (pa_cons pe_non (pa_cons (pe_tup (pa_cons pe_int (pa_cons pe_str (pa_cons pe_int pa_nil)))) (pa_cons (pe_tup (pa_cons pe_int (pa_cons pe_str (pa_cons pe_int pa_nil)))) (pa_cons (pe_tup (pa_cons pe_int (pa_cons pe_str (pa_cons pe_int pa_nil)))) (pa_cons (pe_tup (pa_cons pe_int (pa_cons pe_str (pa_cons pe_int pa_nil)))) pa_nil)))))))))))
      (pss_cons (ps_set (i := 8) nd rfl (.inl rfl) (pe_op op_cat (pv 8) (pe_lst (pa_cons (pe_tup (pa_cons pe_int (pa_cons pe_str (pa_cons pe_int pa_nil)))) (pa_cons (pe_tup (pa_cons pe_int (pa_cons pe_str (pa_cons pe_int pa_nil)))) (pa_cons (pe_tup (pa_cons pe_int (pa_cons pe_str (pa_cons pe_int pa_nil)))) (pa_cons (pe_tup (pa_cons pe_bl (pa_cons pe_str (pa_cons pe_int pa_nil)))) (pa_cons (pe_tup (pa_cons pe_int (pa_cons pe_str (pa_cons (pe_un un_neg pe_int) pa_nil)))) (pa_cons (pe_tup (pa_cons pe_int (pa_cons pe_str (pa_cons pe_int pa_nil)))) (pa_cons (pe_tup (pa_cons pe_int (pa_cons pe_str (pa_cons pe_int pa_nil)))) pa_nil))))))))))
      (pss_cons (ps_if (pt_cmpR op_eq (pv 4) pe_int (nomark _)) (pss_one (ps_expr (pe_bm PySem.F.plainAttrs_list PySem.F.slot_list_insert PySem.F.type_list_insert mt_insert (pv 2) (pa_cons (pv 3) (pa_cons (pe_callC c__law_pick (hr.mono (by first | decide | omega)) hG rfl (pa_cons (pv 0) (pa_cons (pv 8) pa_nil))) pa_nil))))) (pss_one (ps_if (PW.pt (pw_and (pt_cmpR op_eq (pv 4) pe_int (nomark _)) (pw_and1 (pt_cmpR (op_neD hr.units) (pv 2) (pe_lst pa_nil) (nomark _))))) (pss_one (ps_expr (pe_bm PySem.F.plainAttrs_list PySem.F.slot_list_pop PySem.F.type_list_pop mt_popAt (pv 2) (pa_cons (pe_op op_mod (pv 3) (pe_callB call_len (by rfl) T.b_len (by decide +kernel) (pa_cons (pv 2) pa_nil))) pa_nil)))) (pss_one (ps_if (pt_cmpR op_eq (pv 4) pe_int (nomark _)) (pss_one (ps_set (i := 2) nd rfl (.inl rfl) (pe_op op_cat (pe_op op_cat (pe_slice sl_list (pv 2) po_none (po_some (pv 3))) (pe_lst (pa_cons (pe_callC c__law_pick (hr.mono (by first | decide | omega)) hG rfl (pa_cons (pv 0) (pa_cons (pv 8) pa_nil))) pa_nil))) (pe_slice sl_list (pv 2) (po_some (pe_op op_add (pv 3) pe_int)) po_none)))) (pss_one (ps_if (pt_cmpR (op_neD hr.units) (pv 2) (pe_lst pa_nil) (nomark _)) (pss_cons (ps_set (i := 9) nd rfl (.inl rfl) (pe_lst (pa_cons (pe_tup (pa_cons (pe_op op_add (pv 5) pe_int) (pa_cons (pv 6) (pa_cons (pv 7) pa_nil)))) (pa_cons (pe_tup (pa_cons (pv 5) (pa_cons (pv 6) (pa_cons (pe_op op_add (pv 7) pe_int) pa_nil)))) (pa_cons (pe_tup (pa_cons (pv 5) (pa_cons (pe_op op_add_str pe_str (pe_callTy call_str_int (by rfl) T.b_str (by decide +kernel) (pa_cons (pe_callC c__law_roll (hr.mono (by first | decide | omega)) hG rfl (pa_cons (pv 0) (pa_cons pe_int pa_nil))) pa_nil))) (pa_cons (pv 7) pa_nil)))) pa_nil)))))
      (pss_one (ps_asg (pe_callC c__law_pick (hr.mono (by first | decide | omega)) hG rfl (pa_cons (pv 0) (pa_cons (pv 9) pa_nil))) (pg_sub (pv 2) (pe_op op_mod (pv 3) (pe_callB call_len (by rfl) T.b_len (by decide +kernel) (pa_cons (pv 2) pa_nil))) set_list)))) pss_nil)))))))
      (pss_one (ps_ret (pv 2)))))))), ?_⟩
    have lx := hn.len
    rw [List.length_map] at lx
    have fine0 := fine
    obtain ⟨⟨lm1, lm2⟩, tm, hm⟩ := fine
    refine ⟨.ref l, rfl, l, xs, rfl, .inl (SqL.of hl), fun L hL => ?_⟩
    have nLd : L ≠ d := hd.ne hL
    have e0 : Ext d H (upd H L (.lst xs)) := (Ext.refl H).new hL
    have d0 := hd.new (o := .lst xs) hL
    have hl0 : upd H L (.lst xs) l = some (.lst xs) := (upd_ne (ne_of_none hl hL)).trans hl
    have hL0 : upd H L (.lst xs) L = some (.lst xs) := upd_same
    have hn := hn.same ((Same.refl H).new (o := .lst xs) hL)
    generalize upd H L (.lst xs) = G0 at e0 d0 hl0 hL0 hn ⊢
    refine ⟨.ref d, rfl, .ref l, rfl, .ref l, xs.length, rfl, .inl ⟨_, SqL.of hl0, rfl⟩, (xs.length : Int), 1, rfl, rfl, d, _, rfl, d0, by omega, by omega, fun r H1 r0 r1 e1 d1 => ?_⟩
    refine ⟨.ref d, rfl, d, 6, rfl, d1, by decide, by decide, fun w6 H2 w0 w1 e2 d2 => ?_⟩
    have hn := (hn.tup (tup_ext e1 d0)).tup (tup_ext e2 d1)
    have hL2 := e2 _ _ nLd (e1 _ _ nLd hL0)
    have e3 := (e0.trans e1).trans e2
    clear e0 d0 hl0 hL0 e1 d1 e2
    refine ⟨_, _, _, rfl, ?_⟩
    dsimp only [List.set]
    have nz : (0 : Int) < xs.length := by omega
    have i0 := Int.emod_nonneg r (show (xs.length : Int) ≠ 0 by omega)
    have i1 := Int.emod_lt_of_pos r nz
    have ej : r % (xs.length : Int) = (((r % (xs.length : Int)).toNat : Nat) : Int) := by omega
    generalize hj : (r % (xs.length : Int)).toNat = j at ej
    have jx : j < xs.length := by omega
    obtain ⟨n, en, hv⟩ := hn.get (List.getElem?_eq_getElem jx)
    have jm : j < ms.length := by omega
    rw [List.getElem?_map, List.getElem?_eq_getElem jm] at en
    generalize emj : ms[j] = mj at en
    obtain ⟨b, h, m⟩ := mj
    obtain rfl := Option.some.inj en
    have memj : (b, h, m) ∈ ms := by
      rw [← emj]
      exact List.getElem_mem jm
    have hvq := hv
    obtain ⟨q0, ev, hq, lh, ah⟩ := hvq
    have ex : xs[j]? = some (.ref q0) := by rw [List.getElem?_eq_getElem jx, ev]
    refine ⟨.ref L, rfl, Nat.zero_le _, fun c0 hc0 => ?_⟩
    refine ⟨_, _, .lst (SqL.of ((upd_ne (ne_of_none hL2 hc0)).trans hL2)) (dp_nodes (hn.same ((Same.refl H2).new hc0))), .lst (SqL.of upd_same) .nil, shaped_nodes hn, by decide, true, congrArg V.bl (eqv_none (by rw [List.length_map, List.length_map]; exact lm1)), iteT ?_⟩
    have e4 := e3.new (o := .lst []) hc0
    have d4 := d2.new (o := .lst []) hc0
    have hn := hn.same ((Same.refl H2).new (o := .lst []) hc0)
    have hq := (upd_ne (o := .lst []) (ne_of_none hq hc0)).trans hq
    have hL4 := (upd_ne (o := .lst []) (ne_of_none hL2 hc0)).trans hL2
    generalize upd H2 c0 (.lst []) = G4 at e4 d4 hn hq hL4 ⊢
    clear e3 d2 hL2 hc0
    refine ⟨.ref L, rfl, .int r, rfl, .ref L, rfl, .ref L, xs.length, rfl, .inl ⟨_, SqL.of hL4, rfl⟩, r, (xs.length : Int), rfl, rfl, nz, ?_⟩
    refine ⟨L, _, ((j : Nat) : Int), _, rfl, congrArg V.int ej, SqL.of hL4, atI_nat ex, ?_⟩
    refine ⟨q0, _, rfl, .of hq, rfl, .int b, _, rfl, asg_go2 ⟨.str h, _, rfl, asg_go2 ⟨.int m, _, rfl, asg_go2 ⟨rfl, ?_⟩⟩⟩⟩
    dsimp only [List.set]
    have nLH : H L = none := hL
    refine cut_set (fun v H' => ∃ O os, v = .ref O ∧ H' O = some (.lst os) ∧ OddsV K d L H' os ∧ os.length = 9 ∧ Same G4 H' ∧ O ≠ L) (fun Q' hQ => ?_) ?_
    · skip
      have x0 : OddsV K d L G4 [] := .nil
      have y0 : Same G4 G4 := Same.refl _
      refine ⟨lt_line (by show 3 ≤ 1000000; decide), fun a1 ha1 => ?_⟩
      have dx := d4.same y0
      have hLx := y0 _ _ hL4
      have x1 := (x0.same ((Same.refl _).new (o := .tup [.str "f", .int 0, .int 0]) ha1)).snoc (x := .ref a1) (n := none) (.inr (.inr (.inl ⟨_, _, _, _, rfl, upd_same, by decide⟩))) (odd_none)
      have y1 := y0.new (o := .tup [.str "f", .int 0, .int 0]) ha1
      generalize upd G4 a1 (.tup [.str "f", .int 0, .int 0]) = G4_1 at x1 y1 ⊢
      clear dx hLx ha1
      refine ⟨lt_line (by show 2 ≤ 1000000; decide), fun a2 ha2 => ?_⟩
      have dx := d4.same y1
      have hLx := y1 _ _ hL4
      have x2 := (x1.same ((Same.refl _).new (o := .tup [.int 0, .str "f"]) ha2)).snoc (x := .ref a2) (n := none) (.inr (.inl ⟨_, _, rfl, upd_same, by decide, by decide⟩)) (odd_none)
      have y2 := y1.new (o := .tup [.int 0, .str "f"]) ha2
      generalize upd G4_1 a2 (.tup [.int 0, .str "f"]) = G4_2 at x2 y2 ⊢
      clear dx hLx ha2
      refine ⟨lt_line (by show 4 ≤ 1000000; decide), fun a3 ha3 => ?_⟩
      have dx := d4.same y2
      have hLx := y2 _ _ hL4
      have x3 := (x2.same ((Same.refl _).new (o := .tup [.int 0, .str "f", .int 0, .int 0]) ha3)).snoc (x := .ref a3) (n := none) (.inr (.inl ⟨_, _, rfl, upd_same, by decide, by decide⟩)) (odd_none)
      have y3 := y2.new (o := .tup [.int 0, .str "f", .int 0, .int 0]) ha3
      generalize upd G4_2 a3 (.tup [.int 0, .str "f", .int 0, .int 0]) = G4_3 at x3 y3 ⊢
      clear dx hLx ha3
      refine ⟨lt_line (by show 3 ≤ 1000000; decide), fun a4 ha4 => ?_⟩
      have dx := d4.same y3
      have hLx := y3 _ _ hL4
      have x4 := (x3.same ((Same.refl _).new (o := .lst [.int 0, .str "f", .int 0]) ha4)).snoc (x := .ref a4) (n := none) (.inl (.inr ⟨_, _, rfl, upd_same, (dx.ne ha4), (ne_of_none hLx ha4).symm⟩)) (odd_none)
      have y4 := y3.new (o := .lst [.int 0, .str "f", .int 0]) ha4
      generalize upd G4_3 a4 (.lst [.int 0, .str "f", .int 0]) = G4_4 at x4 y4 ⊢
      clear dx hLx ha4
      have x5 := x4.snoc (n := none) (x := .non) (.inl (.inl rfl)) odd_none
      have y5 := y4
      refine ⟨lt_line (by show 3 ≤ 1000000; decide), fun a6 ha6 => ?_⟩
      have dx := d4.same y5
      have hLx := y5 _ _ hL4
      have x6 := (x5.same ((Same.refl _).new (o := .tup [.int 0, .str "x0", .int 0]) ha6)).snoc (x := .ref a6) (n := some (0, "x0", 0)) (nd_some (K := K) upd_same (by decide +kernel)) (odd_some (b := 0) (h := "x0") (m := 0) (by decide) (by decide +kernel))
      have y6 := y5.new (o := .tup [.int 0, .str "x0", .int 0]) ha6
      generalize upd G4_4 a6 (.tup [.int 0, .str "x0", .int 0]) = G4_6 at x6 y6 ⊢
      clear dx hLx ha6
      refine ⟨lt_line (by show 3 ≤ 1000000; decide), fun a7 ha7 => ?_⟩
      have dx := d4.same y6
      have hLx := y6 _ _ hL4
      have x7 := (x6.same ((Same.refl _).new (o := .tup [.int 1, .str "x0", .int 0]) ha7)).snoc (x := .ref a7) (n := some (1, "x0", 0)) (nd_some (K := K) upd_same (by decide +kernel)) (odd_some (b := 1) (h := "x0") (m := 0) (by decide) (by decide +kernel))
      have y7 := y6.new (o := .tup [.int 1, .str "x0", .int 0]) ha7
      generalize upd G4_6 a7 (.tup [.int 1, .str "x0", .int 0]) = G4_7 at x7 y7 ⊢
      clear dx hLx ha7
      refine ⟨lt_line (by show 3 ≤ 1000000; decide), fun a8 ha8 => ?_⟩
      have dx := d4.same y7
      have hLx := y7 _ _ hL4
      have x8 := (x7.same ((Same.refl _).new (o := .tup [.int 0, .str "", .int 0]) ha8)).snoc (x := .ref a8) (n := some (0, "", 0)) (nd_some (K := K) upd_same (by decide +kernel)) (odd_some (b := 0) (h := "") (m := 0) (by decide) (by decide +kernel))
      have y8 := y7.new (o := .tup [.int 0, .str "", .int 0]) ha8
      generalize upd G4_7 a8 (.tup [.int 0, .str "", .int 0]) = G4_8 at x8 y8 ⊢
      clear dx hLx ha8
      refine ⟨lt_line (by show 3 ≤ 1000000; decide), fun a9 ha9 => ?_⟩
      have dx := d4.same y8
      have hLx := y8 _ _ hL4
      have x9 := (x8.same ((Same.refl _).new (o := .tup [.int 0, .str "F", .int 0]) ha9)).snoc (x := .ref a9) (n := some (0, "F", 0)) (nd_some (K := K) upd_same (by decide +kernel)) (odd_some (b := 0) (h := "F") (m := 0) (by decide) (by decide +kernel))
      have y9 := y8.new (o := .tup [.int 0, .str "F", .int 0]) ha9
      generalize upd G4_8 a9 (.tup [.int 0, .str "F", .int 0]) = G4_9 at x9 y9 ⊢
      clear dx hLx ha9
      refine ⟨lt_line (by show 9 ≤ 1000000; decide), fun O hO => ?_⟩
      exact hQ _ _ ⟨O, _, rfl, upd_same, x9.same ((Same.refl _).new hO), rfl, y9.new hO, (ne_of_none (y9 _ _ hL4) hO).symm⟩
    rintro v H5 ⟨O, os, rfl, hO, xo, lo, y5, nOL⟩
    have d5 := d4.same y5
    have e5 := e4.trans (Ext.same y5)
    have hL5 := y5 _ _ hL4
    have hn := hn.same y5
    clear e4 d4 hL4 y5
    refine cut_set (fun v H' => ∃ O os, v = .ref O ∧ H' O = some (.lst os) ∧ OddsV K d L H' os ∧ os.length = 16 ∧ Same H5 H' ∧ O ≠ L ∧ O ≠ d) (fun Q' hQ => ?_) ?_
    · refine ⟨.ref O, rfl, ?_⟩
      have x0 : OddsV K d L H5 [] := .nil
      have y0 : Same H5 H5 := Same.refl _
      refine ⟨lt_line (by show 3 ≤ 1000000; decide), fun a1 ha1 => ?_⟩
      have dx := d5.same y0
      have hLx := y0 _ _ hL5
      have x1 := (x0.same ((Same.refl _).new (o := .tup [.int 0, .str "x00", .int 0]) ha1)).snoc (x := .ref a1) (n := some (0, "x00", 0)) (nd_some (K := K) upd_same (by decide +kernel)) (odd_some (b := 0) (h := "x00") (m := 0) (by decide) (by decide +kernel))
      have y1 := y0.new (o := .tup [.int 0, .str "x00", .int 0]) ha1
      generalize upd H5 a1 (.tup [.int 0, .str "x00", .int 0]) = H5_1 at x1 y1 ⊢
      clear dx hLx ha1
      refine ⟨lt_line (by show 3 ≤ 1000000; decide), fun a2 ha2 => ?_⟩
      have dx := d5.same y1
      have hLx := y1 _ _ hL5
      have x2 := (x1.same ((Same.refl _).new (o := .tup [.int 16, .str "f", .int 0]) ha2)).snoc (x := .ref a2) (n := some (16, "f", 0)) (nd_some (K := K) upd_same (by decide +kernel)) (odd_some (b := 16) (h := "f") (m := 0) (by decide) (by decide +kernel))
      have y2 := y1.new (o := .tup [.int 16, .str "f", .int 0]) ha2
      generalize upd H5_1 a2 (.tup [.int 16, .str "f", .int 0]) = H5_2 at x2 y2 ⊢
      clear dx hLx ha2
      refine ⟨lt_line (by show 3 ≤ 1000000; decide), fun a3 ha3 => ?_⟩
      have dx := d5.same y2
      have hLx := y2 _ _ hL5
      have x3 := (x2.same ((Same.refl _).new (o := .tup [.int 0, .str "f", .int 16]) ha3)).snoc (x := .ref a3) (n := some (0, "f", 16)) (nd_some (K := K) upd_same (by decide +kernel)) (odd_some (b := 0) (h := "f") (m := 16) (by decide) (by decide +kernel))
      have y3 := y2.new (o := .tup [.int 0, .str "f", .int 16]) ha3
      generalize upd H5_2 a3 (.tup [.int 0, .str "f", .int 16]) = H5_3 at x3 y3 ⊢
      clear dx hLx ha3
      refine ⟨lt_line (by show 3 ≤ 1000000; decide), fun a4 ha4 => ?_⟩
      have dx := d5.same y3
      have hLx := y3 _ _ hL5
      have x4 := (x3.same ((Same.refl _).new (o := .tup [.bl true, .str "f", .int 0]) ha4)).snoc (x := .ref a4) (n := none) (.inr (.inr (.inr ⟨_, _, _, _, rfl, upd_same⟩))) (odd_none)
      have y4 := y3.new (o := .tup [.bl true, .str "f", .int 0]) ha4
      generalize upd H5_3 a4 (.tup [.bl true, .str "f", .int 0]) = H5_4 at x4 y4 ⊢
      clear dx hLx ha4
      refine ⟨1, rfl, lt_line (by show 3 ≤ 1000000; decide), fun a5 ha5 => ?_⟩
      have dx := d5.same y4
      have hLx := y4 _ _ hL5
      have x5 := (x4.same ((Same.refl _).new (o := .tup [.int 0, .str "f", .int (-1)]) ha5)).snoc (x := .ref a5) (n := some (0, "f", (-1))) (nd_some (K := K) upd_same (by decide +kernel)) (odd_some (b := 0) (h := "f") (m := (-1)) (by decide) (by decide +kernel))
      have y5 := y4.new (o := .tup [.int 0, .str "f", .int (-1)]) ha5
      generalize upd H5_4 a5 (.tup [.int 0, .str "f", .int (-1)]) = H5_5 at x5 y5 ⊢
      clear dx hLx ha5
      refine ⟨lt_line (by show 3 ≤ 1000000; decide), fun a6 ha6 => ?_⟩
      have dx := d5.same y5
      have hLx := y5 _ _ hL5
      have x6 := (x5.same ((Same.refl _).new (o := .tup [.int 0, .str "?", .int 0]) ha6)).snoc (x := .ref a6) (n := some (0, "?", 0)) (nd_some (K := K) upd_same (by decide +kernel)) (odd_some (b := 0) (h := "?") (m := 0) (by decide) (by decide +kernel))
      have y6 := y5.new (o := .tup [.int 0, .str "?", .int 0]) ha6
      generalize upd H5_5 a6 (.tup [.int 0, .str "?", .int 0]) = H5_6 at x6 y6 ⊢
      clear dx hLx ha6
      refine ⟨lt_line (by show 3 ≤ 1000000; decide), fun a7 ha7 => ?_⟩
      have dx := d5.same y6
      have hLx := y6 _ _ hL5
      have x7 := (x6.same ((Same.refl _).new (o := .tup [.int 0, .str "f", .int 0]) ha7)).snoc (x := .ref a7) (n := some (0, "f", 0)) (nd_some (K := K) upd_same (by decide +kernel)) (odd_some (b := 0) (h := "f") (m := 0) (by decide) (by decide +kernel))
      have y7 := y6.new (o := .tup [.int 0, .str "f", .int 0]) ha7
      generalize upd H5_6 a7 (.tup [.int 0, .str "f", .int 0]) = H5_7 at x7 y7 ⊢
      clear dx hLx ha7
      refine ⟨lt_line (by show 7 ≤ 1000000; decide), fun O1 hO1 => ?_⟩
      have y8 := y7.new (o := .lst [.ref a1, .ref a2, .ref a3, .ref a4, .ref a5, .ref a6, .ref a7]) hO1
      have hOx := y8 _ _ hO
      refine ⟨O, O1, _, _, rfl, rfl, hOx, upd_same, lt_line (by rw [lo]; show 9 + 7 ≤ 1000000; decide), fun O2 hO2 => ?_⟩
      have y9 := y8.new (o := .lst (os ++ [.ref a1, .ref a2, .ref a3, .ref a4, .ref a5, .ref a6, .ref a7])) hO2
      refine hQ _ _ ⟨O2, _, rfl, upd_same, (xo.same y9).app ((x7.same ((Same.refl _).new hO1)).same ((Same.refl _).new hO2)), ?_, y9, (ne_of_none (y8 _ _ hL5) hO2).symm, (d5.same y8).ne hO2⟩
      rw [List.length_append, lo]
      rfl
    rintro v H6 ⟨O, os, rfl, hO, xo, lo, y6, nOL, nOd⟩
    have d6 := d5.same y6
    have e6 := e5.trans (Ext.same y6)
    have hL6 := y6 _ _ hL5
    have hn := hn.same y6
    clear e5 d5 hL5 y6
    have pick_odd : ∀ {x : V} {H7 : Hp}, x ∈ os → Ext d H6 H7 → ∃ n, OddX K d L H7 x n ∧ OddN n := fun {x H7} hx e7 => by
      obtain ⟨n, x1, x2⟩ := xo x hx
      exact ⟨n, x1.keep (tup_ext e7 d6) (fun a ys n1 _ h => e7 _ _ n1 h), x2⟩
    have osne : os ≠ [] := fun z => by
      rw [z] at lo
      cases lo
    refine cut_st (fun σ' H' => ∃ p ys ns c, σ' = [some (.ref d), some (.ref l), some (.ref p), some (.int r), some (.int w6), some (.int b), some (.str h), some (.int m), some (.ref O), c] ∧ Ext d H H' ∧ IsDice H' d ∧ p ≠ d ∧ H' p = some (.lst ys) ∧ NdsV K H' ys ns ∧ Near (k + 1) ns) (fun N hN => ?_) (fun σ' H' hP => ?_)
    · refine ⟨.int w6, rfl, rfl, _, rfl, ite2 (fun c1 => ?_) (fun c1 => ?_)⟩
      · refine ⟨.ref L, rfl, .inl ⟨rfl, _, SqL.of hL6⟩, .int r, rfl, .ref d, rfl, .ref O, rfl, d, O, os, rfl, d6, SqL.of hO, nOd, osne, by omega, fun x H7 hx e7 d7 => ?_⟩
        have hL7 := e7 _ _ nLd hL6
        obtain ⟨n, x3, x2⟩ := pick_odd hx e7
        have hn7 := hn.tup (tup_ext e7 d6)
        refine ⟨L, xs, r, x, rfl, rfl, hL7, lt_line' (by omega), r0, by omega, ?_⟩
        have x4 := (x3.keep (tup_lst (ys := xs.take r.toNat ++ [x] ++ xs.drop r.toNat) hL7) (fun a ys _ n2 h => (upd_ne n2).trans h)).nd
        obtain ⟨z1, z2⟩ := near_mid (hn7.tup (tup_lst (ys := xs.take r.toNat ++ [x] ++ xs.drop r.toNat) hL7)) fine0 (ys := [x]) (zs := [n]) ⟨x4, trivial⟩ (by simp) r.toNat r.toNat (Nat.le_refl _) (by have := x2.1; omega) (fun b h m hb => x2.2 _ _ _ (List.mem_singleton.mp hb).symm)
        exact hN _ _ ⟨L, _, _, _, rfl, (e6.trans e7).mut hL, d7.mut nLd, nLd, upd_same, z1, z2⟩
      · refine cut_if (fun c H' => Same H6 H') (fun N2 hN2 => ?_) (fun c H7 s7 => ?_)
        · refine ⟨.int w6, rfl, rfl, _, rfl, ite2 (fun c2 => ?_) (fun c2 => hN2 _ _ (Same.refl H6))⟩
          refine ⟨.ref L, rfl, Nat.zero_le _, fun c0 hc0 => ?_⟩
          refine ⟨_, _, .lst (SqL.of ((upd_ne (ne_of_none hL6 hc0)).trans hL6)) (dp_nodes (hn.same ((Same.refl H6).new hc0))), .lst (SqL.of upd_same) .nil, shaped_nodes hn, by decide, true, congrArg V.bl (eqv_none (by rw [List.length_map, List.length_map]; exact lm1)), hN2 _ _ ((Same.refl H6).new hc0)⟩
        have e7 := e6.trans (Ext.same s7)
        have d7 := d6.same s7
        have hL7 := s7 _ _ hL6
        have hn7 := hn.same s7
        have hO7 := s7 _ _ hO
        refine ite2 (fun c2 => ?_) (fun c2 => ?_)
        · refine ⟨.ref L, rfl, .inl ⟨rfl, _, SqL.of hL7⟩, .int r, rfl, .ref L, rfl, .ref L, xs.length, rfl, .inl ⟨_, SqL.of hL7, rfl⟩, r, (xs.length : Int), rfl, rfl, nz, ?_⟩
          refine ⟨L, xs, r % (xs.length : Int), j, .ref q0, rfl, rfl, hL7, by omega, by omega, ?_, ex, ?_⟩
          · rw [← hj]
            exact (ixN_seq (ixat18 i0 i1)).1
          · rw [List.eraseIdx_eq_take_drop_succ]
            obtain ⟨z1, z2⟩ := near_mid (hn7.tup (tup_lst (ys := xs.take j ++ xs.drop (j + 1)) hL7)) fine0 (ys := []) (zs := []) trivial (by simp) j (j + 1) (by omega) (by have := tb_drop_le (ms.map some) (show j ≤ j + 1 by omega); show (0 : Int) ≤ _; omega) (fun _ _ _ hb => nomatch hb)
            rw [List.append_nil] at z1
            exact hN _ _ ⟨L, _, _, _, rfl, e7.mut hL, d7.mut nLd, nLd, upd_same, z1, z2⟩
        · have pick_odd7 : ∀ {x : V} {H8 : Hp}, x ∈ os → Ext d H7 H8 → ∃ n, OddX K d L H8 x n ∧ OddN n := fun hx e8 => pick_odd hx ((Ext.same s7).trans e8)
          clear hn hL6 e6 hO xo
          refine ⟨.int w6, rfl, rfl, _, rfl, ite2 (fun c3 => ?_) (fun c3 => ?_)⟩
          · refine ⟨.ref L, rfl, .int r, rfl, r, rfl, L, xs, rfl, SqL.of hL7, fun p1 hp1 => ?_⟩
            have s8 := (Same.refl H7).new (o := .lst (cutV xs none (some r))) hp1
            have hp := @upd_same H7 p1 (.lst (cutV xs none (some r)))
            have d8 := d7.same s8
            have hO8 := s8 _ _ hO7
            generalize upd H7 p1 (.lst (cutV xs none (some r))) = H8 at s8 hp d8 hO8 ⊢
            refine ⟨.ref d, rfl, .ref O, rfl, d, O, os, rfl, d8, SqL.of hO8, nOd, osne, by omega, fun x H9 hx e9 d9 => ⟨lt_line (by show 1 ≤ 1000000; decide), fun p2 hp2 => ?_⟩⟩
            have np1 : p1 ≠ d := d7.ne hp1
            have hp9 := e9 _ _ np1 hp
            obtain ⟨n, x3, x2⟩ := pick_odd7 hx ((Ext.same s8).trans e9)
            have hL9 := e9 _ _ nLd (s8 _ _ hL7)
            have hn9 := (hn7.same s8).tup (tup_ext e9 d8)
            have e10 := (e7.trans (Ext.same s8)).trans e9
            have er : r = ((r.toNat : Nat) : Int) := by omega
            have ec : cutV xs none (some r) = xs.take r.toNat := by
              rw [er]
              exact cut_take18 xs _
            rw [ec] at hp9
            have hp10 := (upd_ne (o := .lst [x]) (ne_of_none hp9 hp2)).trans hp9
            have lt1 : (xs.take r.toNat).length ≤ 20 := by
              rw [List.length_take]
              omega
            refine ⟨p1, p2, _, _, rfl, rfl, hp10, upd_same, lt_line (by rw [show [x].length = 1 from rfl]; omega), fun p3 hp3 => ?_⟩
            have s11 := ((Same.refl H9).new hp2).new (o := .lst (xs.take r.toNat ++ [x])) hp3
            have hp3' : upd (upd H9 p2 (.lst [x])) p3 (.lst (xs.take r.toNat ++ [x])) p3 = some (.lst (xs.take r.toNat ++ [x])) := upd_same
            generalize upd (upd H9 p2 (.lst [x])) p3 (.lst (xs.take r.toNat ++ [x])) = H11 at s11 hp3' ⊢
            have hL11 := s11 _ _ hL9
            refine ⟨.ref L, rfl, .int r, rfl, r, 1, rfl, rfl, r + 1, rfl, L, xs, rfl, SqL.of hL11, fun p4 hp4 => ?_⟩
            have ec2 : cutV xs (some (r + 1)) none = xs.drop (r.toNat + 1) := by
              rw [show r + 1 = ((r.toNat + 1 : Nat) : Int) by omega]
              exact cut_drop18 xs _
            rw [ec2]
            have lt2 : (xs.drop (r.toNat + 1)).length ≤ 20 := by
              rw [List.length_drop]
              omega
            refine ⟨p3, p4, _, _, rfl, rfl, (upd_ne (ne_of_none hp3' hp4)).trans hp3', upd_same, lt_line (by rw [List.length_append, show [x].length = 1 from rfl]; omega), fun p5 hp5 => ?_⟩
            have s12 := (s11.new (o := .lst (xs.drop (r.toNat + 1))) hp4).new (o := .lst (xs.take r.toNat ++ [x] ++ xs.drop (r.toNat + 1))) hp5
            have x4 := x3.nd.same s12
            have d12 := d9.same s12
            obtain ⟨z1, z2⟩ := near_mid (hn9.same s12) fine0 (ys := [x]) (zs := [n]) ⟨x4, trivial⟩ (by simp) r.toNat (r.toNat + 1) (by omega) (by have := x2.1; have := tb_drop_le (ms.map some) (show r.toNat ≤ r.toNat + 1 by omega); omega) (fun b h m hb => x2.2 _ _ _ (List.mem_singleton.mp hb).symm)
            exact hN _ _ ⟨p5, _, _, _, rfl, e10.trans (Ext.same s12), d12, (d9.same (s11.new (o := .lst (xs.drop (r.toNat + 1))) hp4)).ne hp5, upd_same, z1, z2⟩
          · refine ⟨.ref L, rfl, Nat.zero_le _, fun c0 hc0 => ?_⟩
            refine ⟨_, _, .lst (SqL.of ((upd_ne (ne_of_none hL7 hc0)).trans hL7)) (dp_nodes (hn7.same ((Same.refl H7).new hc0))), .lst (SqL.of upd_same) .nil, shaped_nodes hn7, by decide, true, congrArg V.bl (eqv_none (by rw [List.length_map, List.length_map]; exact lm1)), iteT ?_⟩
            have s8 := (Same.refl H7).new (o := .lst []) hc0
            generalize upd H7 c0 (.lst []) = H8 at s8 ⊢
            refine ⟨.int b, rfl, b, 1, rfl, rfl, .str h, rfl, .int m, rfl, lt_line (by show 3 ≤ 1000000; decide), fun a1 h1 => ?_⟩
            have s9 := s8.new (o := .tup [.int (b + 1), .str h, .int m]) h1
            have t1 := @upd_same H8 a1 (.tup [.int (b + 1), .str h, .int m])
            generalize upd H8 a1 (.tup [.int (b + 1), .str h, .int m]) = H9 at s9 t1 ⊢
            refine ⟨.int b, rfl, .str h, rfl, .int m, rfl, m, 1, rfl, rfl, lt_line (by show 3 ≤ 1000000; decide), fun a2 h2 => ?_⟩
            have s10 := s9.new (o := .tup [.int b, .str h, .int (m + 1)]) h2
            have t2 := @upd_same H9 a2 (.tup [.int b, .str h, .int (m + 1)])
            have t1 := (upd_ne (o := .tup [.int b, .str h, .int (m + 1)]) (ne_of_none t1 h2)).trans t1
            generalize upd H9 a2 (.tup [.int b, .str h, .int (m + 1)]) = H10 at s10 t1 t2 ⊢
            have d10 := d7.same s10
            refine ⟨.int b, rfl, .ref d, rfl, d, 4, rfl, d10, by decide, by decide, fun t H11 t0 t3 e11 d11 => ?_⟩
            obtain ⟨u, rfl⟩ := Int.eq_ofNat_of_zero_le t0
            have u4 : u < 4 := by omega
            have hx4 : ∀ j : Fin 4, ((!isW (.str (("x" : Str) ++ (toString ((j.val : Nat) : Int) : Str))) || decide ((("x" : Str) ++ (toString ((j.val : Nat) : Int) : Str)) ∈ (["f", "g", "cons"] : List Str))) && (decide ((("x" : Str) ++ (toString ((j.val : Nat) : Int) : Str)).length ≤ 100) && (("x" : Str) ++ (toString ((j.val : Nat) : Int) : Str)).cps.toList.all fun c => decide (c < 128)) && decide (("x" : Str).length + (toString ((j.val : Nat) : Int) : Str).length ≤ 100)) = true := by decide +kernel
            obtain ⟨hx5, hx6⟩ := Bool.and_eq_true_iff.mp (hx4 ⟨u, u4⟩)
            obtain ⟨hx7, hx8⟩ := Bool.and_eq_true_iff.mp hx5
            have t1 := tup_ext e11 d10 _ _ t1
            have t2 := tup_ext e11 d10 _ _ t2
            refine ⟨(u : Int), rfl, log_lev (by omega), "x", _, rfl, rfl, lt_line (Nat.le_trans (of_decide_eq_true hx6) (by decide)), .int m, rfl, lt_line (by show 3 ≤ 1000000; decide), fun a3 h3 => ?_⟩
            generalize hxu : (("x" : Str) ++ (toString ((u : Nat) : Int) : Str)) = xu at hx7 hx8 ⊢
            have s12 := (Same.refl H11).new (o := .tup [.int b, .str xu, .int m]) h3
            have t3' := @upd_same H11 a3 (.tup [.int b, .str xu, .int m])
            have t1 := s12 _ _ t1
            have t2 := s12 _ _ t2
            have d12 := d11.same s12
            generalize upd H11 a3 (.tup [.int b, .str xu, .int m]) = H12 at s12 t1 t2 t3' d12 ⊢
            refine ⟨lt_line (by show 3 ≤ 1000000; decide), fun O3 hO3 => ?_⟩
            have s13 := s12.new (o := .lst [.ref a1, .ref a2, .ref a3]) hO3
            have d13 := d12.new (o := .lst [.ref a1, .ref a2, .ref a3]) hO3
            have hO13 := @upd_same H12 O3 (.lst [.ref a1, .ref a2, .ref a3])
            have nO3 := d12.ne hO3
            have t1 := (upd_ne (o := .lst [.ref a1, .ref a2, .ref a3]) (ne_of_none t1 hO3)).trans t1
            have t2 := (upd_ne (o := .lst [.ref a1, .ref a2, .ref a3]) (ne_of_none t2 hO3)).trans t2
            have t3' := (upd_ne (o := .lst [.ref a1, .ref a2, .ref a3]) (ne_of_none t3' hO3)).trans t3'
            generalize upd H12 O3 (.lst [.ref a1, .ref a2, .ref a3]) = H13 at s13 d13 hO13 t1 t2 t3' ⊢
            refine asg_go2 ?_
            dsimp only [List.set]
            refine ⟨.ref d, rfl, .ref O3, rfl, d, O3, _, rfl, d13, SqL.of hO13, nO3, (fun z => nomatch z), by show 3 < 1000000; decide, fun x H14 hx e14 d14 => ?_⟩
            have e15 := (((e7.trans (Ext.same s10)).trans e11).trans (Ext.same s13)).trans e14
            have hL14 := e14 _ _ nLd (s13 _ _ (e11 _ _ nLd (s10 _ _ hL7)))
            have hn14 := (((hn7.same s10).tup (tup_ext e11 d10)).same s13).tup (tup_ext e14 d13)
            refine ⟨.ref L, rfl, .int r, rfl, .ref L, rfl, .ref L, xs.length, rfl, .inl ⟨_, SqL.of hL14, rfl⟩, r, (xs.length : Int), rfl, rfl, nz, L, xs, r % (xs.length : Int), j, rfl, rfl, hL14, ?_, ?_⟩
            · rw [← hj]
              exact ixat18 i0 i1
            · have ed : (ms.map some).drop j = some (b, h, m) :: (ms.map some).drop (j + 1) := by
                rw [List.drop_eq_getElem_cons (by rw [List.length_map]; exact jm), List.getElem_map, emj]
              have et : tb ((ms.map some).drop j) = (if isCnt b then b else 0) + tb ((ms.map some).drop (j + 1)) := by
                rw [ed]
                rfl
              have tl := tup_lst (ys := xs.set j x) hL14
              have case3 : ∃ n : N3, NdV K (upd H14 L (.lst (xs.set j x))) x n ∧ tb [n] ≤ 1 + (if isCnt b then b else 0) ∧ ∀ b h m, n = some (b, h, m) → HeadOK h := by
                have k14 := fun a zs e => tl a zs (tup_ext e14 d13 a zs e)
                rcases List.mem_cons.mp hx with rfl | hx
                · refine ⟨some (b + 1, h, m), ⟨a1, rfl, k14 _ _ t1, lh, ah⟩, ?_, fun _ _ _ z => by cases z; exact hm _ _ _ memj⟩
                  show (if isCnt (b + 1) then b + 1 else 0) + 0 ≤ _
                  unfold isCnt
                  by_cases b0 : 0 ≤ b
                  · by_cases b5 : b + 1 ≤ 15
                    · rw [decide_eq_true (show (0 : Int) ≤ b + 1 by omega), decide_eq_true b5, decide_eq_true b0, decide_eq_true (show b ≤ 15 by omega)]
                      show b + 1 + 0 ≤ 1 + b
                      omega
                    · rw [decide_eq_false b5, Bool.and_false]
                      show (0 : Int) + 0 ≤ _
                      split <;> omega
                  · rw [decide_eq_false b0]
                    show _ ≤ (1 : Int) + 0
                    split <;> omega
                rcases List.mem_cons.mp hx with rfl | hx
                · refine ⟨some (b, h, m + 1), ⟨a2, rfl, k14 _ _ t2, lh, ah⟩, ?_, fun _ _ _ z => by cases z; exact hm _ _ _ memj⟩
                  show (if isCnt b then b else 0) + 0 ≤ _
                  omega
                · obtain rfl := List.mem_singleton.mp hx
                  refine ⟨some (b, xu, m), nd_some (K := K) (k14 _ _ t3') hx8, ?_, fun _ _ _ z => by cases z; exact headOK_of hx7⟩
                  show (if isCnt b then b else 0) + 0 ≤ _
                  omega
              obtain ⟨n, x4, x5, x6⟩ := case3
              obtain ⟨z1, z2⟩ := near_mid (hn14.tup tl) fine0 (ys := [x]) (zs := [n]) ⟨x4, trivial⟩ (by simp) j (j + 1) (by omega) (by omega) (fun b h m hb => x6 _ _ _ (List.mem_singleton.mp hb).symm)
              have es : xs.set j x = xs.take j ++ [x] ++ xs.drop (j + 1) := by
                rw [List.set_eq_take_append_cons_drop, if_pos jx, List.append_assoc]
                rfl
              rw [← es] at z1
              exact hN _ _ ⟨L, _, _, _, rfl, e15.mut hL, d14.mut nLd, nLd, upd_same, z1, z2⟩
    · obtain ⟨p, ys, ns, c, rfl, eE, dE, nE, hE, zE, fE⟩ := hP
      exact ⟨.ref p, rfl, q p ys ns H' eE dE nE hE zE fE⟩
end


end My
namespace My
open PySem PySem.Spec PyProof.Rows L2 TL
set_option pp.maxSteps 3000
set_option pp.deepTerms false
/-! ### the law's cell -/
theorem pick_most {x : V} (hx : x ∈ [V.int 1, V.int 6, V.int 12]) : ∃ m : Nat, x = .int (m : Nat) ∧ 1 ≤ m ∧ m ≤ 12 := by
  rcases List.mem_cons.mp hx with rfl | hx
  · exact ⟨1, rfl, by decide, by decide⟩
  rcases List.mem_cons.mp hx with rfl | hx
  · exact ⟨6, rfl, by decide, by decide⟩
  · rw [List.mem_singleton.mp hx]
    exact ⟨12, rfl, by decide, by decide⟩
def BadV (K : PySem.W.Frag) (H : Hp) (x : V) : Prop := (∃ t, (∀ H', Same H H' → TyX K H' x t) ∧ PySem.W.kitOne K t (.type "tuple") = some false) ∨ ∃ p xs ns, x = .ref p ∧ H p = some (.tup xs) ∧ xs.length ≤ 1000 ∧ NdsV K H xs ns ∧ fineN ns = false
theorem nd_int {K : PySem.W.Frag} {H : Hp} {i : Int} : NdV K H (.int i) none := .inl ⟨.type "int", fun _ _ => .base (.int _), kit_ty (by decide +kernel)⟩
theorem nd_str {K : PySem.W.Frag} {H : Hp} {x : Str} : NdV K H (.str x) none := .inl ⟨.type "str", fun _ _ => .base (.str _), kit_ty (by decide +kernel)⟩
theorem ne_dice {H : Hp} {d a : Addr} {o : HO} (D : IsDice H d) (h : H a = some o) (n : ∀ {xs}, o = .lst xs → False) : a ≠ d := fun z => by
  obtain ⟨u, v, w, hd⟩ := D
  rw [z, hd] at h
  exact n (Option.some.inj h).symm
theorem fine_len {ns : List N3} (h : fineF ns = true) : 1 ≤ ns.length := of_decide_eq_true (Bool.and_eq_true_iff.mp (Bool.and_eq_true_iff.mp h).1).1
def sp__law_right (_ : PySem.W.Frag) : Sp := fun vs H Q _ => ∃ d, vs = [.ref d] ∧ IsDice H d ∧ ∀ H', Ext d H H' → IsDice H' d → Q (.bl true) H'
section
variable {P : Program} {w : World} {K : PySem.W.Frag} {mg : Str → Option Value} {base : Heap} {C_Program : Addr}
theorem ok__law_right (T : Txt K mg C_Program) (c__law_program_nodes : Cal P w K mg base "_law_program_nodes" 6 ["_law_program"] (sp__law_program_nodes K)) (c__law_pick : Cal P w K mg base "_law_pick" 2 ["_law_dice_here", "_law_items"] (sp__law_pick K)) (c__law_drawn : Cal P w K mg base "_law_drawn" 11 ["_law_dice_here", "_law_bound", "_law_most"] (sp__law_drawn K)) (c__law_is_taken : Cal P w K mg base "_law_is_taken" 7 ["_law_value"] (sp__law_is_taken K)) (c__law_bent : Cal P w K mg base "_law_bent" 3 ["_law_dice_here", "_law_nodes"] (sp__law_bent K)) (c__law_is_fine : Cal P w K mg base "_law_is_fine" 1 ["_law_value"] (sp__law_is_fine K)) {f : Addr} {fd : FuncData} (F : Fun K "_law_right" "_law_right" s__law_right f fd) : FnOkG P w K mg base CX0 12 f fd ["_law_dice_here"] (sp__law_right K) := by
  have nd := sc__law_right.nd
  refine F.okG sc__law_right (fun vs H Q E h => ?_) (fun cdv A outer s H vs Q E hr hG h => ?_)
  · obtain ⟨d, rfl, _⟩ := h
    rfl
  · obtain ⟨d, rfl, hd, q⟩ := h
    refine ⟨_, (pss_cons (ps_set (i := 1) nd rfl (.inl rfl) (pe_callC c__law_program_nodes (hr.mono (by first | decide | omega)) hG rfl (pa_cons (pe_callC c__law_drawn (hr.mono (by first | decide | omega)) hG rfl (pa_cons (pv 0) (pa_cons pe_int (pa_cons (pe_callC c__law_pick (hr.mono (by first | decide | omega)) hG rfl (pa_cons (pv 0) (pa_cons (pe_lst (pa_cons pe_int (pa_cons pe_int (pa_cons pe_int pa_nil)))) pa_nil))) pa_nil)))) pa_nil)))
      (pss_cons (ps_if (pt_not (pt_truth (pe_callC c__law_is_taken (hr.mono (by first | decide | omega)) hG rfl (pa_cons (pe_callTy call_tuple_of (by rfl) T.b_tuple (by decide +kernel) (pa_cons (pv 1) pa_nil)) pa_nil)) (by intro _; rfl))) (pss_one (ps_ret pe_bl)) pss_nil)
      (pss_cons (ps_for PassesOwn.never rfl (pi_range1 (by rfl) T.b_range (pa_cons pe_int pa_nil)) (pg_name (i := 2) nd rfl (.inl rfl)) (pss_cons (ps_set (i := 3) nd rfl (.inl rfl) (pe_callC c__law_bent (hr.mono (by first | decide | omega)) hG rfl (pa_cons (pv 0) (pa_cons (pv 1) pa_nil))))
      (pss_cons (ps_if (pt_cmpR op_ne (pe_callC c__law_is_taken (hr.mono (by first | decide | omega)) hG rfl (pa_cons (pe_callTy call_tuple_of (by rfl) T.b_tuple (by decide +kernel) (pa_cons (pv 3) pa_nil)) pa_nil)) (pe_callC c__law_is_fine (hr.mono (by first | decide | omega)) hG rfl (pa_cons (pe_callTy call_tuple_of (by rfl) T.b_tuple (by decide +kernel) (pa_cons (pv 3) pa_nil)) pa_nil)) (nomark _)) (pss_one (ps_ret pe_bl)) pss_nil)
      (pss_one (ps_set (i := 1) nd rfl (.inl rfl) (pe_ifExp (PW.pt (pw_and (pt_truth (pe_callC c__law_is_fine (hr.mono (by first | decide | omega)) hG rfl (pa_cons (pe_callTy call_tuple_of (by rfl) T.b_tuple (by decide +kernel) (pa_cons (pv 3) pa_nil)) pa_nil)) (by intro _; rfl)) (pw_and1 (pt_cmpR op_lt (pe_callB call_len (by rfl) T.b_len (by decide +kernel) (pa_cons (pv 3) pa_nil)) pe_int (nomark _))))) (pv 3) (pv 1)))))))
      (pss_cons (ps_set (i := 4) nd rfl (.inl rfl) (pe_callC c__law_pick (hr.mono (by first | decide | omega)) hG rfl (pa_cons (pv 0) (pa_cons (pe_lst (pa_cons pe_non (pa_cons pe_int (pa_cons (pe_tup pa_nil) (pa_cons (pe_lst pa_nil) (pa_cons (pe_callTy call_list_of (by rfl) T.b_list (by decide +kernel) (pa_cons (pv 1) pa_nil)) (pa_cons pe_str (pa_cons pe_dnewK (pa_cons (pe_tup (pa_cons (pe_tup pa_nil) pa_nil)) (pa_cons (pe_ix ix_list (pv 1) pe_int (fun _ _ => rfl)) (pa_cons (pe_tup (pa_cons (pe_ix ix_tup (pe_ix ix_list (pv 1) pe_int (fun _ _ => rfl)) pe_int (fun _ _ => rfl)) pa_nil)) (pa_cons (pe_tup (pa_cons (pe_tup (pa_cons pe_int (pa_cons pe_str (pa_cons pe_int pa_nil)))) pa_nil)) pa_nil)))))))))))) pa_nil))))
      (pss_one (ps_ret (pe_not (pe_callC c__law_is_taken (hr.mono (by first | decide | omega)) hG rfl (pa_cons (pv 4) pa_nil))))))))), ?_⟩
    refine cut_set (fun v H' => ∃ l xs ms, v = .ref l ∧ Ext d H H' ∧ IsDice H' d ∧ l ≠ d ∧ H' l = some (.lst xs) ∧ NdsV K H' xs (ms.map some) ∧ FineAt 24 ms ∧ fineF (ms.map some) = true) (fun Q' hQ => ?_) ?_
    · refine ⟨.ref d, rfl, .ref d, rfl, lt_line (by show 3 ≤ 1000000; decide), fun l1 hl1 => ⟨d, l1, _, rfl, hd.new hl1, SqL.of upd_same, hd.ne hl1, (fun z => nomatch z), by show 3 < 1000000; decide, fun x H1 hx e1 d1 => ?_⟩⟩
      obtain ⟨m, rfl, m1, m2⟩ := pick_most hx
      have e1 := ((Ext.refl H).new (o := .lst [V.int 1, V.int 6, V.int 12]) hl1).trans e1
      refine ⟨d, 0, m, rfl, d1, by decide, by decide, m1, by show m < 16; omega, fun v t H2 hv gd nt dt e2 d2 => ?_⟩
      obtain ⟨f1, f2, f3⟩ := good_fine gd (by omega) dt
      refine ⟨v, t, rfl, hv, by omega, by omega, f3, fun p xs H3 s3 np hp hn => ?_⟩
      exact hQ _ _ ⟨p, xs, t.nodes, rfl, (e1.trans e2).trans (Ext.same s3), d2.same s3, d2.ne np, hp, hn, f1, f2⟩
    rintro v H1 ⟨l, xs, ms, rfl, e1, d1, nl, hl, hn, fa, ff⟩
    have tk : fineN (ms.map some) = true := by
      rw [fine_eq (by have := fa.2.1; omega) (fun b h m hm => ?_)]
      · exact ff
      · obtain ⟨y, hy, e⟩ := List.mem_map.mp hm
        cases e
        exact fa.2.2 _ _ _ hy
    have lx := hn.len
    rw [List.length_map] at lx
    have l20 := fa.1.2
    refine cut_st (fun σ' H' => (∃ s2 s3 s4, σ' = [some (.ref d), some (.ref l), s2, s3, s4]) ∧ Same H1 H') (fun N hN => ?_) (fun σ' H' hP => ?_)
    · refine ⟨.ref l, rfl, l, xs, rfl, .inl ⟨SqL.of hl, fun t1 ht1 => ?_⟩⟩
      have s1 := (Same.refl H1).new (o := .tup xs) ht1
      refine ⟨_, rfl, .inr ⟨t1, xs, ms.map some, rfl, upd_same, by omega, hn.same s1, fun H2 s2 => ⟨fineN (ms.map some), rfl, ?_⟩⟩⟩
      rw [tk]
      exact iteF (hN _ _ ⟨⟨_, _, _, rfl⟩, s1.trans s2⟩)
    obtain ⟨⟨s2, s3, s4, rfl⟩, s1⟩ := hP
    have e1 := e1.trans (Ext.same s1)
    have d1 := d1.same s1
    have hl := s1 _ _ hl
    have hn := hn.same s1
    refine cut_for (fun σ' H2 => ∃ l xs ms s2 s3 s4, σ' = [some (.ref d), some (.ref l), s2, s3, s4] ∧ Ext d H H2 ∧ IsDice H2 d ∧ l ≠ d ∧ H2 l = some (.lst xs) ∧ NdsV K H2 xs (ms.map some) ∧ FineAt 36 ms) (fun N hN => ?_) (fun σ' H2 hP => ?_)
    · refine ⟨12, rfl, by decide, by decide, for_range (lo := 0) (fun i σ H' => ∃ l xs ms s2 s3 s4, σ = [some (.ref d), some (.ref l), s2, s3, s4] ∧ Ext d H H' ∧ IsDice H' d ∧ l ≠ d ∧ H' l = some (.lst xs) ∧ NdsV K H' xs (ms.map some) ∧ FineAt (24 + (i : Int)) ms) ?_ (fun i σ H1 hi hP => ?_) (fun σ H1 hP => ?_)⟩
      · exact ⟨l, xs, ms, _, _, _, rfl, e1, d1, nl, hl, hn, fa⟩
      · have hi : i < 12 := hi
        obtain ⟨l, xs, ms, s2, s3, s4, rfl, e1, d1, nl, hl, hn, fa⟩ := hP
        have lx := hn.len
        rw [List.length_map] at lx
        refine asg_go2 ?_
        dsimp only [List.set]
        refine ⟨.ref d, rfl, .ref l, rfl, d, l, xs, ms, 24 + (i : Int), rfl, d1, nl, hl, hn, fa, fun p ys ns H2 e2 d2 np hp hn2 near => ?_⟩
        obtain ⟨n20, tn, hh⟩ := near
        have ly := hn2.len
        have fe := fine_eq (ns := ns) (by omega) hh
        refine asg_go2 ?_
        dsimp only [List.set]
        refine cut_st (fun σ' H' => (σ' = [some (.ref d), some (.ref l), some (.int (0 + (i : Int))), some (.ref p), s4]) ∧ Same H2 H') (fun N hN => ?_) (fun σ' H3 hP => ?_)
        · refine ⟨.ref p, rfl, p, ys, rfl, .inl ⟨SqL.of hp, fun t1 ht1 => ?_⟩⟩
          have s1 := (Same.refl H2).new (o := .tup ys) ht1
          refine ⟨_, rfl, .inr ⟨t1, ys, ns, rfl, upd_same, by omega, hn2.same s1, fun H3 s3 => ?_⟩⟩
          have s3 := s1.trans s3
          refine ⟨.ref p, rfl, p, ys, rfl, .inl ⟨SqL.of (s3 _ _ hp), fun t2 ht2 => ?_⟩⟩
          have s5 := s3.new (o := .tup ys) ht2
          refine ⟨_, rfl, .inr ⟨t2, ys, ns, rfl, upd_same, by omega, hn2.same s5, by omega, fun H4 s6 => ⟨rfl, _, rfl, ?_⟩⟩⟩
          rw [fe, decide_eq_true rfl]
          exact iteF (hN _ _ ⟨rfl, s5.trans s6⟩)
        obtain ⟨rfl, s5⟩ := hP
        have hp3 := s5 _ _ hp
        have hn3 := hn2.same s5
        have d3 := d2.same s5
        have e3 := (e1.trans e2).trans (Ext.same s5)
        have hl3 := s5 _ _ (e2 _ _ nl hl)
        have hn4 := (hn.tup (tup_ext e2 d1)).same s5
        have stay : FineAt (24 + ((i + 1 : Nat) : Int)) ms := ⟨fa.1, by have := fa.2.1; omega, fa.2.2⟩
        refine ⟨.ref p, rfl, p, ys, rfl, .inl ⟨SqL.of hp3, fun t1 ht1 => ?_⟩⟩
        have s6 := (Same.refl H3).new (o := .tup ys) ht1
        refine ⟨_, rfl, .inr ⟨t1, ys, ns, rfl, upd_same, by omega, hn3.same s6, by omega, fun H4 s7 => ?_⟩⟩
        have s8 := s6.trans s7
        refine ⟨fineF ns, rfl, ?_⟩
        cases ef : fineF ns with
        | false => exact iteF (iteF ⟨.ref l, rfl, asg_go2 ⟨l, xs, ms, _, _, _, rfl, e3.trans (Ext.same s8), d3.same s8, nl, s8 _ _ hl3, hn4.same s8, stay⟩⟩)
        | true =>
          refine iteT ⟨.ref p, rfl, .ref p, ys.length, rfl, .inl ⟨_, SqL.of (s8 _ _ hp3), rfl⟩, (ys.length : Int), 20, rfl, rfl, _, rfl, ?_⟩
          refine ite2 (fun c => ?_) (fun c => ?_)
          · have c := of_decide_eq_true c
            rw [ef] at fe
            have eo : ns.all okN = true := (Bool.and_eq_true_iff.mp (Bool.and_eq_true_iff.mp (Bool.and_eq_true_iff.mp fe).1).1).1
            have ens := all_some eo
            have ln := fine_len ef
            generalize ns.filterMap id = ms' at ens
            subst ens
            rw [List.length_map] at ln ly
            exact ⟨.ref p, rfl, asg_go2 ⟨p, ys, ms', _, _, _, rfl, e3.trans (Ext.same s8), d3.same s8, np, s8 _ _ hp3, hn3.same s8, ⟨⟨ln, by omega⟩, by omega, fun b h m hm => hh b h m (List.mem_map_of_mem hm)⟩⟩⟩
          · exact ⟨.ref l, rfl, asg_go2 ⟨l, xs, ms, _, _, _, rfl, e3.trans (Ext.same s8), d3.same s8, nl, s8 _ _ hl3, hn4.same s8, stay⟩⟩
      · obtain ⟨l, xs, ms, s2, s3, s4, rfl, e1, d1, nl, hl, hn, fa⟩ := hP
        exact hN _ _ ⟨l, xs, ms, s2, s3, s4, rfl, e1, d1, nl, hl, hn, fa⟩
    obtain ⟨l, xs, ms, s2, s3, s4, rfl, e1, d1, nl, hl, hn, fa⟩ := hP
    have lx := hn.len
    rw [List.length_map] at lx
    have jm : 0 < ms.length := fa.1.1
    have jx : 0 < xs.length := by omega
    obtain ⟨n, en, hv⟩ := hn.get (List.getElem?_eq_getElem jx)
    rw [List.getElem?_map, List.getElem?_eq_getElem jm] at en
    generalize emj : ms[0] = mj at en
    obtain ⟨b, h, m⟩ := mj
    obtain rfl := Option.some.inj en
    obtain ⟨q0, ev, hq, lh, ah⟩ := hv
    have ex : xs[0]? = some (.ref q0) := by rw [List.getElem?_eq_getElem jx, ev]
    refine cut_set (fun v H' => BadV K H' v ∧ Ext d H H' ∧ IsDice H' d) (fun Q' hQ => ?_) ?_
    · refine ⟨.ref d, rfl, ?_⟩
      have y0 : Same H2 H2 := Same.refl H2
      refine ⟨lt_line (by show 0 ≤ 1000000; decide), fun t0 h1 => ?_⟩
      have y1 := y0.new (o := .tup []) h1
      have f1 := @upd_same H2 t0 (.tup [])
      generalize upd H2 t0 (.tup []) = G1 at y1 f1 ⊢
      refine ⟨lt_line (by show 0 ≤ 1000000; decide), fun l0 h2 => ?_⟩
      have y2 := y1.new (o := .lst []) h2
      have f2 := @upd_same G1 l0 (.lst [])
      have f1 := (upd_ne (o := .lst []) (ne_of_none f1 h2)).trans f1
      have m2 := (d1.same y1).ne h2
      generalize upd G1 l0 (.lst []) = G2 at y2 f1 f2 ⊢
      refine ⟨.ref l, rfl, l, xs, rfl, .inl (SqL.of (y2 _ _ hl)), fun l2 h3 => ?_⟩
      have y3 := y2.new (o := .lst xs) h3
      have f3 := @upd_same G2 l2 (.lst xs)
      have f1 := (upd_ne (o := .lst xs) (ne_of_none f1 h3)).trans f1
      have f2 := (upd_ne (o := .lst xs) (ne_of_none f2 h3)).trans f2
      have m3 := (d1.same y2).ne h3
      generalize upd G2 l2 (.lst xs) = G3 at y3 f1 f2 f3 ⊢
      refine fun D h4 => ?_
      have y4 := y3.new (o := .dK []) h4
      have f4 := @upd_same G3 D (.dK [])
      have f1 := (upd_ne (o := .dK []) (ne_of_none f1 h4)).trans f1
      have f2 := (upd_ne (o := .dK []) (ne_of_none f2 h4)).trans f2
      have f3 := (upd_ne (o := .dK []) (ne_of_none f3 h4)).trans f3
      generalize upd G3 D (.dK []) = G4 at y4 f1 f2 f3 f4 ⊢
      refine ⟨lt_line (by show 0 ≤ 1000000; decide), fun t1 h5 => ?_⟩
      have y5 := y4.new (o := .tup []) h5
      have f5 := @upd_same G4 t1 (.tup [])
      have f1 := (upd_ne (o := .tup []) (ne_of_none f1 h5)).trans f1
      have f2 := (upd_ne (o := .tup []) (ne_of_none f2 h5)).trans f2
      have f3 := (upd_ne (o := .tup []) (ne_of_none f3 h5)).trans f3
      have f4 := (upd_ne (o := .tup []) (ne_of_none f4 h5)).trans f4
      generalize upd G4 t1 (.tup []) = G5 at y5 f1 f2 f3 f4 f5 ⊢
      refine ⟨lt_line (by show 1 ≤ 1000000; decide), fun t2 h6 => ?_⟩
      have y6 := y5.new (o := .tup [.ref t1]) h6
      have f6 := @upd_same G5 t2 (.tup [.ref t1])
      have f1 := (upd_ne (o := .tup [.ref t1]) (ne_of_none f1 h6)).trans f1
      have f2 := (upd_ne (o := .tup [.ref t1]) (ne_of_none f2 h6)).trans f2
      have f3 := (upd_ne (o := .tup [.ref t1]) (ne_of_none f3 h6)).trans f3
      have f4 := (upd_ne (o := .tup [.ref t1]) (ne_of_none f4 h6)).trans f4
      have f5 := (upd_ne (o := .tup [.ref t1]) (ne_of_none f5 h6)).trans f5
      generalize upd G5 t2 (.tup [.ref t1]) = G6 at y6 f1 f2 f3 f4 f5 f6 ⊢
      refine ⟨.ref l, rfl, l, _, 0, _, rfl, rfl, SqL.of (y6 _ _ hl), atI_nat (j := 0) ex, .ref l, rfl, l, _, 0, _, rfl, rfl, SqL.of (y6 _ _ hl), atI_nat (j := 0) ex, q0, _, 1, _, rfl, rfl, .of (y6 _ _ hq), atI_nat (j := 1) rfl, lt_line (by show 1 ≤ 1000000; decide), fun t3 h7 => ?_⟩
      have y7 := y6.new (o := .tup [.str h]) h7
      have f7 := @upd_same G6 t3 (.tup [.str h])
      have f1 := (upd_ne (o := .tup [.str h]) (ne_of_none f1 h7)).trans f1
      have f2 := (upd_ne (o := .tup [.str h]) (ne_of_none f2 h7)).trans f2
      have f3 := (upd_ne (o := .tup [.str h]) (ne_of_none f3 h7)).trans f3
      have f4 := (upd_ne (o := .tup [.str h]) (ne_of_none f4 h7)).trans f4
      have f5 := (upd_ne (o := .tup [.str h]) (ne_of_none f5 h7)).trans f5
      have f6 := (upd_ne (o := .tup [.str h]) (ne_of_none f6 h7)).trans f6
      generalize upd G6 t3 (.tup [.str h]) = G7 at y7 f1 f2 f3 f4 f5 f6 f7 ⊢
      refine ⟨lt_line (by show 3 ≤ 1000000; decide), fun t4 h8 => ?_⟩
      have y8 := y7.new (o := .tup [.int 0, .str "f", .int 1]) h8
      have f8 := @upd_same G7 t4 (.tup [.int 0, .str "f", .int 1])
      have f1 := (upd_ne (o := .tup [.int 0, .str "f", .int 1]) (ne_of_none f1 h8)).trans f1
      have f2 := (upd_ne (o := .tup [.int 0, .str "f", .int 1]) (ne_of_none f2 h8)).trans f2
      have f3 := (upd_ne (o := .tup [.int 0, .str "f", .int 1]) (ne_of_none f3 h8)).trans f3
      have f4 := (upd_ne (o := .tup [.int 0, .str "f", .int 1]) (ne_of_none f4 h8)).trans f4
      have f5 := (upd_ne (o := .tup [.int 0, .str "f", .int 1]) (ne_of_none f5 h8)).trans f5
      have f6 := (upd_ne (o := .tup [.int 0, .str "f", .int 1]) (ne_of_none f6 h8)).trans f6
      have f7 := (upd_ne (o := .tup [.int 0, .str "f", .int 1]) (ne_of_none f7 h8)).trans f7
      generalize upd G7 t4 (.tup [.int 0, .str "f", .int 1]) = G8 at y8 f1 f2 f3 f4 f5 f6 f7 f8 ⊢
      refine ⟨lt_line (by show 1 ≤ 1000000; decide), fun t5 h9 => ?_⟩
      have y9 := y8.new (o := .tup [.ref t4]) h9
      have f9 := @upd_same G8 t5 (.tup [.ref t4])
      have f1 := (upd_ne (o := .tup [.ref t4]) (ne_of_none f1 h9)).trans f1
      have f2 := (upd_ne (o := .tup [.ref t4]) (ne_of_none f2 h9)).trans f2
      have f3 := (upd_ne (o := .tup [.ref t4]) (ne_of_none f3 h9)).trans f3
      have f4 := (upd_ne (o := .tup [.ref t4]) (ne_of_none f4 h9)).trans f4
      have f5 := (upd_ne (o := .tup [.ref t4]) (ne_of_none f5 h9)).trans f5
      have f6 := (upd_ne (o := .tup [.ref t4]) (ne_of_none f6 h9)).trans f6
      have f7 := (upd_ne (o := .tup [.ref t4]) (ne_of_none f7 h9)).trans f7
      have f8 := (upd_ne (o := .tup [.ref t4]) (ne_of_none f8 h9)).trans f8
      generalize upd G8 t5 (.tup [.ref t4]) = G9 at y9 f1 f2 f3 f4 f5 f6 f7 f8 f9 ⊢
      refine ⟨lt_line (by show 11 ≤ 1000000; decide), fun O h10 => ?_⟩
      have y10 := y9.new (o := .lst [V.non, .int 0, .ref t0, .ref l0, .ref l2, .str "f", .ref D, .ref t2, .ref q0, .ref t3, .ref t5]) h10
      have f10 := @upd_same G9 O (.lst [V.non, .int 0, .ref t0, .ref l0, .ref l2, .str "f", .ref D, .ref t2, .ref q0, .ref t3, .ref t5])
      have f1 := (upd_ne (o := .lst [V.non, .int 0, .ref t0, .ref l0, .ref l2, .str "f", .ref D, .ref t2, .ref q0, .ref t3, .ref t5]) (ne_of_none f1 h10)).trans f1
      have f2 := (upd_ne (o := .lst [V.non, .int 0, .ref t0, .ref l0, .ref l2, .str "f", .ref D, .ref t2, .ref q0, .ref t3, .ref t5]) (ne_of_none f2 h10)).trans f2
      have f3 := (upd_ne (o := .lst [V.non, .int 0, .ref t0, .ref l0, .ref l2, .str "f", .ref D, .ref t2, .ref q0, .ref t3, .ref t5]) (ne_of_none f3 h10)).trans f3
      have f4 := (upd_ne (o := .lst [V.non, .int 0, .ref t0, .ref l0, .ref l2, .str "f", .ref D, .ref t2, .ref q0, .ref t3, .ref t5]) (ne_of_none f4 h10)).trans f4
      have f5 := (upd_ne (o := .lst [V.non, .int 0, .ref t0, .ref l0, .ref l2, .str "f", .ref D, .ref t2, .ref q0, .ref t3, .ref t5]) (ne_of_none f5 h10)).trans f5
      have f6 := (upd_ne (o := .lst [V.non, .int 0, .ref t0, .ref l0, .ref l2, .str "f", .ref D, .ref t2, .ref q0, .ref t3, .ref t5]) (ne_of_none f6 h10)).trans f6
      have f7 := (upd_ne (o := .lst [V.non, .int 0, .ref t0, .ref l0, .ref l2, .str "f", .ref D, .ref t2, .ref q0, .ref t3, .ref t5]) (ne_of_none f7 h10)).trans f7
      have f8 := (upd_ne (o := .lst [V.non, .int 0, .ref t0, .ref l0, .ref l2, .str "f", .ref D, .ref t2, .ref q0, .ref t3, .ref t5]) (ne_of_none f8 h10)).trans f8
      have f9 := (upd_ne (o := .lst [V.non, .int 0, .ref t0, .ref l0, .ref l2, .str "f", .ref D, .ref t2, .ref q0, .ref t3, .ref t5]) (ne_of_none f9 h10)).trans f9
      have m10 := (d1.same y9).ne h10
      generalize upd G9 O (.lst [V.non, .int 0, .ref t0, .ref l0, .ref l2, .str "f", .ref D, .ref t2, .ref q0, .ref t3, .ref t5]) = G10 at y10 f1 f2 f3 f4 f5 f6 f7 f8 f9 f10 ⊢
      have dO := d1.same y10
      refine ⟨d, O, _, rfl, dO, SqL.of f10, m10, (fun z => nomatch z), by show 11 < 1000000; decide, fun x H9 hx e9 d9 => ?_⟩
      refine hQ _ _ ⟨?_, (e1.trans (Ext.same y10)).trans e9, d9⟩
      have tt := tup_ext e9 dO
      rcases List.mem_cons.mp hx with rfl | hx
      · exact .inl ⟨.type "NoneType", fun _ s9 => .base .non, kit_ty (by decide +kernel)⟩
      rcases List.mem_cons.mp hx with rfl | hx
      · exact .inl ⟨.type "int", fun _ s9 => .base (.int _), kit_ty (by decide +kernel)⟩
      rcases List.mem_cons.mp hx with rfl | hx
      · exact .inr ⟨t0, [], [], rfl, tt _ _ f1, by show 0 ≤ 1000; decide, trivial, by decide +kernel⟩
      rcases List.mem_cons.mp hx with rfl | hx
      · exact .inl ⟨.type "list", fun _ s9 => .base (.lst (s9 _ _ (e9 _ _ m2 f2))), kit_ty (by decide +kernel)⟩
      rcases List.mem_cons.mp hx with rfl | hx
      · exact .inl ⟨.type "list", fun _ s9 => .base (.lst (s9 _ _ (e9 _ _ m3 f3))), kit_ty (by decide +kernel)⟩
      rcases List.mem_cons.mp hx with rfl | hx
      · exact .inl ⟨.type "str", fun _ s9 => .base (.str _), kit_ty (by decide +kernel)⟩
      rcases List.mem_cons.mp hx with rfl | hx
      · exact .inl ⟨.type "dict", fun _ s9 => .base (.dK (s9 _ _ (e9 _ _ (ne_dice dO f4 (fun z => nomatch z)) f4))), kit_ty (by decide +kernel)⟩
      rcases List.mem_cons.mp hx with rfl | hx
      · exact .inr ⟨t2, [.ref t1], [none], rfl, tt _ _ f6, by show 1 ≤ 1000; decide, ⟨.inr (.inl ⟨t1, [], rfl, tt _ _ f5, by decide, by decide⟩), trivial⟩, by decide +kernel⟩
      rcases List.mem_cons.mp hx with rfl | hx
      · exact .inr ⟨q0, [.int b, .str h, .int m], [none, none, none], rfl, tt _ _ (y10 _ _ hq), by show 3 ≤ 1000; decide, ⟨nd_int, nd_str, nd_int, trivial⟩, by decide +kernel⟩
      rcases List.mem_cons.mp hx with rfl | hx
      · exact .inr ⟨t3, [.str h], [none], rfl, tt _ _ f7, by show 1 ≤ 1000; decide, ⟨nd_str, trivial⟩, by decide +kernel⟩
      obtain rfl := List.mem_singleton.mp hx
      · exact .inr ⟨t5, [.ref t4], [some (0, "f", 1)], rfl, tt _ _ f9, by show 1 ≤ 1000; decide, ⟨nd_some (K := K) (tt _ _ f8) (by decide +kernel), trivial⟩, by decide +kernel⟩
    rintro v H3 ⟨bad, e3, d3⟩
    refine ⟨v, rfl, v, rfl, ?_⟩
    rcases bad with ⟨t, ht, hk⟩ | ⟨p, ys, ns, rfl, hp, hl3, hn3, ef⟩
    · exact .inl ⟨t, ht, hk, fun H4 s4 => ⟨false, rfl, q H4 (e3.trans (Ext.same s4)) (d3.same s4)⟩⟩
    · refine .inr ⟨p, ys, ns, rfl, hp, hl3, hn3, fun H4 s4 => ?_⟩
      rw [ef]
      exact ⟨false, rfl, q H4 (e3.trans (Ext.same s4)) (d3.same s4)⟩
end


end My
namespace My
open PySem PySem.Spec PyProof.Rows L2 TL
set_option pp.maxSteps 3000
set_option pp.deepTerms false
/-! ### the law -/
abbrev n3 (b : Int) (h : Str) (m : Int) : N3 := some (b, h, m)
theorem NdsV.rep {K : PySem.W.Frag} {H : Hp} {v : V} {n : N3} (h : NdV K H v n) : ∀ k : Nat, NdsV K H (List.replicate k v) (List.replicate k n)
  | 0 => trivial
  | k + 1 => ⟨h, NdsV.rep h k⟩
section
variable {P : Program} {w : World} {K : PySem.W.Frag} {mg : Str → Option Value} {base : Heap} {C_Program : Addr}
theorem ok_law (T : Txt K mg C_Program) (c__law_is_taken : Cal P w K mg base "_law_is_taken" 7 ["_law_value"] (sp__law_is_taken K)) (c__law_right : Cal P w K mg base "_law_right" 12 ["_law_dice_here"] (sp__law_right K)) (c__law_dice : Cal P w K mg base "_law_dice" 1 ["_law_script", "_law_spot"] (sp__law_dice K)) {f : Addr} {fd : FuncData} (F : Fun K "law" "law" s_law f fd) : FnOkG P w K mg base CX0 13 f fd ["_law_script"] (sp_law K) := by
  have nd := sc_law.nd
  refine F.okG sc_law (fun vs H Q E h => ?_) (fun cdv A outer s H vs Q E hr hG h => ?_)
  · obtain ⟨a, ns, rfl, _⟩ := h
    rfl
  · obtain ⟨a, ns, rfl, hS, hn, q⟩ := h
    refine ⟨_, (pss_cons (ps_for PassesOwn.never rfl (pi_range1 (by rfl) T.b_range (pa_cons (pe_callB (call_max2 rfl) (by rfl) T.b_max (by decide +kernel) (pa_cons pe_int (pa_cons (pe_callB (call_min2 rfl) (by rfl) T.b_min (by decide +kernel) (pa_cons pe_int (pa_cons (pe_callB call_len (by rfl) T.b_len (by decide +kernel) (pa_cons (pv 0) pa_nil)) pa_nil))) pa_nil))) pa_nil)) (pg_name (i := 1) nd rfl (.inl rfl)) (pss_one (ps_if (pt_not (pt_truth (pe_callC c__law_right (hr.mono (by first | decide | omega)) hG rfl (pa_cons (pe_callC c__law_dice (hr.mono (by first | decide | omega)) hG rfl (pa_cons (pv 0) (pa_cons (pv 1) pa_nil))) pa_nil)) (by intro _; rfl))) (pss_one (ps_ret pe_bl)) pss_nil)))
      (pss_cons (ps_set (i := 2) nd rfl (.inl rfl) (pe_op op_repT (pe_tup (pa_cons (pe_tup (pa_cons pe_int (pa_cons pe_str (pa_cons pe_int pa_nil)))) pa_nil)) pe_int))
      (pss_cons (ps_set (i := 3) nd rfl (.inl rfl) (pe_op op_catA (pe_op op_repT (pe_tup (pa_cons (pe_tup (pa_cons pe_int (pa_cons pe_str (pa_cons pe_int pa_nil)))) pa_nil)) pe_int) (pe_tup (pa_cons (pe_tup (pa_cons pe_int (pa_cons pe_str (pa_cons pe_int pa_nil)))) pa_nil))))
      (pss_cons (ps_set (i := 4) nd rfl (.inl rfl) (pe_lst (pa_cons (pe_callC c__law_is_taken (hr.mono (by first | decide | omega)) hG rfl (pa_cons (pe_op op_catA (pv 2) (pe_tup (pa_cons (pe_tup (pa_cons pe_int (pa_cons pe_str (pa_cons pe_int pa_nil)))) pa_nil))) pa_nil)) (pa_cons (pe_callC c__law_is_taken (hr.mono (by first | decide | omega)) hG rfl (pa_cons (pe_op op_catA (pv 2) (pe_tup (pa_cons (pe_tup (pa_cons pe_int (pa_cons pe_str (pa_cons pe_int pa_nil)))) (pa_cons (pe_tup (pa_cons pe_int (pa_cons pe_str (pa_cons pe_int pa_nil)))) pa_nil)))) pa_nil)) pa_nil))))
      (pss_one (ps_ret (pe_cmpR (op_eqD hr.units) (pe_op op_cat (pv 4) (pe_lst (pa_cons (pe_callC c__law_is_taken (hr.mono (by first | decide | omega)) hG rfl (pa_cons (pv 3) pa_nil)) (pa_cons (pe_callC c__law_is_taken (hr.mono (by first | decide | omega)) hG rfl (pa_cons (pe_op op_catA (pe_slice sl_tupA (pv 3) po_none (po_some pe_int)) (pe_tup (pa_cons (pe_tup (pa_cons pe_int (pa_cons pe_str (pa_cons pe_int pa_nil)))) pa_nil))) pa_nil)) pa_nil)))) (pe_lst (pa_cons pe_bl (pa_cons pe_bl (pa_cons pe_bl (pa_cons pe_bl pa_nil))))) (nomark _)))))))), ?_⟩
    obtain ⟨j1, j2⟩ := cells_ok hn _ rfl
    refine cut_for (fun σ' H' => ∃ s1, σ' = [some (.ref a), s1, none, none, none]) (fun N hN => ?_) ?_
    · refine ⟨.ref a, rfl, .ref a, _, rfl, .inl ⟨_, hS, rfl⟩, 8, _, rfl, 1, _, rfl, _, rfl, ?_, ?_, ?_⟩
      · rw [List.length_map]
        omega
      · rw [List.length_map]
        omega
      rw [List.length_map]
      refine for_range (lo := 0) (fun i σ H' => (∃ s1, σ = [some (.ref a), s1, none, none, none]) ∧ Same H H') ?_ (fun i σ H1 hi hP => ?_) (fun σ H1 hP => ?_)
      · exact ⟨⟨_, rfl⟩, Same.refl H⟩
      · obtain ⟨⟨s1, rfl⟩, sm⟩ := hP
        refine ⟨.ref a, rfl, _, rfl, a, ns, _, rfl, sm.seq hS, by omega, by omega, fun d o hd dd => ?_⟩
        have hdH : H d = none := sm.free hd
        refine ⟨d, rfl, dd, fun H3 e3 d3 => ?_⟩
        have m3 := same_ext (sm.mut hdH) hdH e3
        exact ⟨true, rfl, iteF ⟨⟨_, rfl⟩, m3⟩⟩
      · obtain ⟨⟨s1, rfl⟩, sm⟩ := hP
        exact hN _ _ ⟨s1, rfl⟩
    rintro σ' G0 ⟨s1, rfl⟩
    refine ⟨lt_line (by show 3 ≤ 1000000; decide), fun t1 h1 => ?_⟩
    have f1 := @upd_same G0 t1 (.tup [.int 0, .str "f", .int 1])
    generalize upd G0 t1 (.tup [.int 0, .str "f", .int 1]) = G1 at f1 ⊢
    refine ⟨lt_line (by show 1 ≤ 1000000; decide), fun t2 h2 => ?_⟩
    have f2 := @upd_same G1 t2 (.tup [.ref t1])
    have f1 := (upd_ne (o := .tup [.ref t1]) (ne_of_none f1 h2)).trans f1
    generalize upd G1 t2 (.tup [.ref t1]) = G2 at f1 f2 ⊢
    refine ⟨t2, 39, [.ref t1], rfl, rfl, .of f2, (fun z => nomatch z), by decide, by decide, by show 1 ≤ 1000; decide, fun c1 h3 => ?_⟩
    rw [List.flatten_replicate_singleton]
    have f3 := @upd_same G2 c1 (.tup (List.replicate (39 : Int).toNat (V.ref t1)))
    have f1 := (upd_ne (o := .tup (List.replicate (39 : Int).toNat (V.ref t1))) (ne_of_none f1 h3)).trans f1
    have f2 := (upd_ne (o := .tup (List.replicate (39 : Int).toNat (V.ref t1))) (ne_of_none f2 h3)).trans f2
    generalize upd G2 c1 (.tup (List.replicate (39 : Int).toNat (V.ref t1))) = G3 at f1 f2 f3 ⊢
    refine asg_go2 ?_
    dsimp only [List.set]
    refine ⟨lt_line (by show 3 ≤ 1000000; decide), fun t3 h4 => ?_⟩
    have f4 := @upd_same G3 t3 (.tup [.int 15, .str "f", .int 1])
    have f1 := (upd_ne (o := .tup [.int 15, .str "f", .int 1]) (ne_of_none f1 h4)).trans f1
    have f2 := (upd_ne (o := .tup [.int 15, .str "f", .int 1]) (ne_of_none f2 h4)).trans f2
    have f3 := (upd_ne (o := .tup [.int 15, .str "f", .int 1]) (ne_of_none f3 h4)).trans f3
    generalize upd G3 t3 (.tup [.int 15, .str "f", .int 1]) = G4 at f1 f2 f3 f4 ⊢
    refine ⟨lt_line (by show 1 ≤ 1000000; decide), fun t4 h5 => ?_⟩
    have f5 := @upd_same G4 t4 (.tup [.ref t3])
    have f1 := (upd_ne (o := .tup [.ref t3]) (ne_of_none f1 h5)).trans f1
    have f2 := (upd_ne (o := .tup [.ref t3]) (ne_of_none f2 h5)).trans f2
    have f3 := (upd_ne (o := .tup [.ref t3]) (ne_of_none f3 h5)).trans f3
    have f4 := (upd_ne (o := .tup [.ref t3]) (ne_of_none f4 h5)).trans f4
    generalize upd G4 t4 (.tup [.ref t3]) = G5 at f1 f2 f3 f4 f5 ⊢
    refine ⟨t4, 6, [.ref t3], rfl, rfl, .of f5, (fun z => nomatch z), by decide, by decide, by show 1 ≤ 1000; decide, fun c2 h6 => ?_⟩
    rw [List.flatten_replicate_singleton]
    have f6 := @upd_same G5 c2 (.tup (List.replicate (6 : Int).toNat (V.ref t3)))
    have f1 := (upd_ne (o := .tup (List.replicate (6 : Int).toNat (V.ref t3))) (ne_of_none f1 h6)).trans f1
    have f2 := (upd_ne (o := .tup (List.replicate (6 : Int).toNat (V.ref t3))) (ne_of_none f2 h6)).trans f2
    have f3 := (upd_ne (o := .tup (List.replicate (6 : Int).toNat (V.ref t3))) (ne_of_none f3 h6)).trans f3
    have f4 := (upd_ne (o := .tup (List.replicate (6 : Int).toNat (V.ref t3))) (ne_of_none f4 h6)).trans f4
    have f5 := (upd_ne (o := .tup (List.replicate (6 : Int).toNat (V.ref t3))) (ne_of_none f5 h6)).trans f5
    generalize upd G5 c2 (.tup (List.replicate (6 : Int).toNat (V.ref t3))) = G6 at f1 f2 f3 f4 f5 f6 ⊢
    refine ⟨lt_line (by show 3 ≤ 1000000; decide), fun t5 h7 => ?_⟩
    have f7 := @upd_same G6 t5 (.tup [.int 10, .str "x99", .int 0])
    have f1 := (upd_ne (o := .tup [.int 10, .str "x99", .int 0]) (ne_of_none f1 h7)).trans f1
    have f2 := (upd_ne (o := .tup [.int 10, .str "x99", .int 0]) (ne_of_none f2 h7)).trans f2
    have f3 := (upd_ne (o := .tup [.int 10, .str "x99", .int 0]) (ne_of_none f3 h7)).trans f3
    have f4 := (upd_ne (o := .tup [.int 10, .str "x99", .int 0]) (ne_of_none f4 h7)).trans f4
    have f5 := (upd_ne (o := .tup [.int 10, .str "x99", .int 0]) (ne_of_none f5 h7)).trans f5
    have f6 := (upd_ne (o := .tup [.int 10, .str "x99", .int 0]) (ne_of_none f6 h7)).trans f6
    generalize upd G6 t5 (.tup [.int 10, .str "x99", .int 0]) = G7 at f1 f2 f3 f4 f5 f6 f7 ⊢
    refine ⟨lt_line (by show 1 ≤ 1000000; decide), fun t6 h8 => ?_⟩
    have f8 := @upd_same G7 t6 (.tup [.ref t5])
    have f1 := (upd_ne (o := .tup [.ref t5]) (ne_of_none f1 h8)).trans f1
    have f2 := (upd_ne (o := .tup [.ref t5]) (ne_of_none f2 h8)).trans f2
    have f3 := (upd_ne (o := .tup [.ref t5]) (ne_of_none f3 h8)).trans f3
    have f4 := (upd_ne (o := .tup [.ref t5]) (ne_of_none f4 h8)).trans f4
    have f5 := (upd_ne (o := .tup [.ref t5]) (ne_of_none f5 h8)).trans f5
    have f6 := (upd_ne (o := .tup [.ref t5]) (ne_of_none f6 h8)).trans f6
    have f7 := (upd_ne (o := .tup [.ref t5]) (ne_of_none f7 h8)).trans f7
    generalize upd G7 t6 (.tup [.ref t5]) = G8 at f1 f2 f3 f4 f5 f6 f7 f8 ⊢
    refine ⟨c2, t6, _, _, rfl, rfl, .of f6, .of f8, lt_line (by show 7 ≤ 1000000; decide), (fun z => nomatch z), (fun _ z => nomatch z), fun _ _ c3 h9 => ?_⟩
    have f9 := @upd_same G8 c3 (.tup (List.replicate (6 : Int).toNat (V.ref t3) ++ [V.ref t5]))
    have f1 := (upd_ne (o := .tup (List.replicate (6 : Int).toNat (V.ref t3) ++ [V.ref t5])) (ne_of_none f1 h9)).trans f1
    have f2 := (upd_ne (o := .tup (List.replicate (6 : Int).toNat (V.ref t3) ++ [V.ref t5])) (ne_of_none f2 h9)).trans f2
    have f3 := (upd_ne (o := .tup (List.replicate (6 : Int).toNat (V.ref t3) ++ [V.ref t5])) (ne_of_none f3 h9)).trans f3
    have f4 := (upd_ne (o := .tup (List.replicate (6 : Int).toNat (V.ref t3) ++ [V.ref t5])) (ne_of_none f4 h9)).trans f4
    have f5 := (upd_ne (o := .tup (List.replicate (6 : Int).toNat (V.ref t3) ++ [V.ref t5])) (ne_of_none f5 h9)).trans f5
    have f6 := (upd_ne (o := .tup (List.replicate (6 : Int).toNat (V.ref t3) ++ [V.ref t5])) (ne_of_none f6 h9)).trans f6
    have f7 := (upd_ne (o := .tup (List.replicate (6 : Int).toNat (V.ref t3) ++ [V.ref t5])) (ne_of_none f7 h9)).trans f7
    have f8 := (upd_ne (o := .tup (List.replicate (6 : Int).toNat (V.ref t3) ++ [V.ref t5])) (ne_of_none f8 h9)).trans f8
    generalize upd G8 c3 (.tup (List.replicate (6 : Int).toNat (V.ref t3) ++ [V.ref t5])) = G9 at f1 f2 f3 f4 f5 f6 f7 f8 f9 ⊢
    refine asg_go2 ?_
    dsimp only [List.set]
    refine ⟨.ref c1, rfl, lt_line (by show 3 ≤ 1000000; decide), fun t7 h10 => ?_⟩
    have f10 := @upd_same G9 t7 (.tup [.int 0, .str "f", .int 0])
    have f1 := (upd_ne (o := .tup [.int 0, .str "f", .int 0]) (ne_of_none f1 h10)).trans f1
    have f2 := (upd_ne (o := .tup [.int 0, .str "f", .int 0]) (ne_of_none f2 h10)).trans f2
    have f3 := (upd_ne (o := .tup [.int 0, .str "f", .int 0]) (ne_of_none f3 h10)).trans f3
    have f4 := (upd_ne (o := .tup [.int 0, .str "f", .int 0]) (ne_of_none f4 h10)).trans f4
    have f5 := (upd_ne (o := .tup [.int 0, .str "f", .int 0]) (ne_of_none f5 h10)).trans f5
    have f6 := (upd_ne (o := .tup [.int 0, .str "f", .int 0]) (ne_of_none f6 h10)).trans f6
    have f7 := (upd_ne (o := .tup [.int 0, .str "f", .int 0]) (ne_of_none f7 h10)).trans f7
    have f8 := (upd_ne (o := .tup [.int 0, .str "f", .int 0]) (ne_of_none f8 h10)).trans f8
    have f9 := (upd_ne (o := .tup [.int 0, .str "f", .int 0]) (ne_of_none f9 h10)).trans f9
    generalize upd G9 t7 (.tup [.int 0, .str "f", .int 0]) = G10 at f1 f2 f3 f4 f5 f6 f7 f8 f9 f10 ⊢
    refine ⟨lt_line (by show 1 ≤ 1000000; decide), fun t8 h11 => ?_⟩
    have f11 := @upd_same G10 t8 (.tup [.ref t7])
    have f1 := (upd_ne (o := .tup [.ref t7]) (ne_of_none f1 h11)).trans f1
    have f2 := (upd_ne (o := .tup [.ref t7]) (ne_of_none f2 h11)).trans f2
    have f3 := (upd_ne (o := .tup [.ref t7]) (ne_of_none f3 h11)).trans f3
    have f4 := (upd_ne (o := .tup [.ref t7]) (ne_of_none f4 h11)).trans f4
    have f5 := (upd_ne (o := .tup [.ref t7]) (ne_of_none f5 h11)).trans f5
    have f6 := (upd_ne (o := .tup [.ref t7]) (ne_of_none f6 h11)).trans f6
    have f7 := (upd_ne (o := .tup [.ref t7]) (ne_of_none f7 h11)).trans f7
    have f8 := (upd_ne (o := .tup [.ref t7]) (ne_of_none f8 h11)).trans f8
    have f9 := (upd_ne (o := .tup [.ref t7]) (ne_of_none f9 h11)).trans f9
    have f10 := (upd_ne (o := .tup [.ref t7]) (ne_of_none f10 h11)).trans f10
    generalize upd G10 t8 (.tup [.ref t7]) = G11 at f1 f2 f3 f4 f5 f6 f7 f8 f9 f10 f11 ⊢
    refine ⟨c1, t8, _, _, rfl, rfl, .of f3, .of f11, lt_line (by show 40 ≤ 1000000; decide), (fun z => nomatch z), (fun _ z => nomatch z), fun _ _ c4 h12 => ?_⟩
    have f12 := @upd_same G11 c4 (.tup (List.replicate (39 : Int).toNat (V.ref t1) ++ [V.ref t7]))
    have f1 := (upd_ne (o := .tup (List.replicate (39 : Int).toNat (V.ref t1) ++ [V.ref t7])) (ne_of_none f1 h12)).trans f1
    have f2 := (upd_ne (o := .tup (List.replicate (39 : Int).toNat (V.ref t1) ++ [V.ref t7])) (ne_of_none f2 h12)).trans f2
    have f3 := (upd_ne (o := .tup (List.replicate (39 : Int).toNat (V.ref t1) ++ [V.ref t7])) (ne_of_none f3 h12)).trans f3
    have f4 := (upd_ne (o := .tup (List.replicate (39 : Int).toNat (V.ref t1) ++ [V.ref t7])) (ne_of_none f4 h12)).trans f4
    have f5 := (upd_ne (o := .tup (List.replicate (39 : Int).toNat (V.ref t1) ++ [V.ref t7])) (ne_of_none f5 h12)).trans f5
    have f6 := (upd_ne (o := .tup (List.replicate (39 : Int).toNat (V.ref t1) ++ [V.ref t7])) (ne_of_none f6 h12)).trans f6
    have f7 := (upd_ne (o := .tup (List.replicate (39 : Int).toNat (V.ref t1) ++ [V.ref t7])) (ne_of_none f7 h12)).trans f7
    have f8 := (upd_ne (o := .tup (List.replicate (39 : Int).toNat (V.ref t1) ++ [V.ref t7])) (ne_of_none f8 h12)).trans f8
    have f9 := (upd_ne (o := .tup (List.replicate (39 : Int).toNat (V.ref t1) ++ [V.ref t7])) (ne_of_none f9 h12)).trans f9
    have f10 := (upd_ne (o := .tup (List.replicate (39 : Int).toNat (V.ref t1) ++ [V.ref t7])) (ne_of_none f10 h12)).trans f10
    have f11 := (upd_ne (o := .tup (List.replicate (39 : Int).toNat (V.ref t1) ++ [V.ref t7])) (ne_of_none f11 h12)).trans f11
    generalize upd G11 c4 (.tup (List.replicate (39 : Int).toNat (V.ref t1) ++ [V.ref t7])) = G12 at f1 f2 f3 f4 f5 f6 f7 f8 f9 f10 f11 f12 ⊢
    refine ⟨_, rfl, .inr ⟨c4, List.replicate (39 : Int).toNat (V.ref t1) ++ [V.ref t7], (List.replicate 39 (n3 0 "f" 1) ++ [n3 0 "f" 0]), rfl, f12, by show 40 ≤ 1000; decide, NdsV.app (ys := [_]) (ms := [_]) (NdsV.rep (nd_some (K := K) f1 (by decide +kernel)) 39) ⟨nd_some (K := K) f10 (by decide +kernel), trivial⟩, fun K13 z13 => ?_⟩⟩
    rw [show fineN ((List.replicate 39 (n3 0 "f" 1) ++ [n3 0 "f" 0])) = true by decide +kernel]
    have f1 := z13 _ _ f1
    have f2 := z13 _ _ f2
    have f3 := z13 _ _ f3
    have f4 := z13 _ _ f4
    have f5 := z13 _ _ f5
    have f6 := z13 _ _ f6
    have f7 := z13 _ _ f7
    have f8 := z13 _ _ f8
    have f9 := z13 _ _ f9
    have f10 := z13 _ _ f10
    have f11 := z13 _ _ f11
    have f12 := z13 _ _ f12
    refine ⟨.ref c1, rfl, lt_line (by show 3 ≤ 1000000; decide), fun t9 h14 => ?_⟩
    have f14 := @upd_same K13 t9 (.tup [.int 0, .str "f", .int 1])
    have f1 := (upd_ne (o := .tup [.int 0, .str "f", .int 1]) (ne_of_none f1 h14)).trans f1
    have f2 := (upd_ne (o := .tup [.int 0, .str "f", .int 1]) (ne_of_none f2 h14)).trans f2
    have f3 := (upd_ne (o := .tup [.int 0, .str "f", .int 1]) (ne_of_none f3 h14)).trans f3
    have f4 := (upd_ne (o := .tup [.int 0, .str "f", .int 1]) (ne_of_none f4 h14)).trans f4
    have f5 := (upd_ne (o := .tup [.int 0, .str "f", .int 1]) (ne_of_none f5 h14)).trans f5
    have f6 := (upd_ne (o := .tup [.int 0, .str "f", .int 1]) (ne_of_none f6 h14)).trans f6
    have f7 := (upd_ne (o := .tup [.int 0, .str "f", .int 1]) (ne_of_none f7 h14)).trans f7
    have f8 := (upd_ne (o := .tup [.int 0, .str "f", .int 1]) (ne_of_none f8 h14)).trans f8
    have f9 := (upd_ne (o := .tup [.int 0, .str "f", .int 1]) (ne_of_none f9 h14)).trans f9
    have f10 := (upd_ne (o := .tup [.int 0, .str "f", .int 1]) (ne_of_none f10 h14)).trans f10
    have f11 := (upd_ne (o := .tup [.int 0, .str "f", .int 1]) (ne_of_none f11 h14)).trans f11
    have f12 := (upd_ne (o := .tup [.int 0, .str "f", .int 1]) (ne_of_none f12 h14)).trans f12
    generalize upd K13 t9 (.tup [.int 0, .str "f", .int 1]) = G14 at f1 f2 f3 f4 f5 f6 f7 f8 f9 f10 f11 f12 f14 ⊢
    refine ⟨lt_line (by show 3 ≤ 1000000; decide), fun t10 h15 => ?_⟩
    have f15 := @upd_same G14 t10 (.tup [.int 0, .str "f", .int 0])
    have f1 := (upd_ne (o := .tup [.int 0, .str "f", .int 0]) (ne_of_none f1 h15)).trans f1
    have f2 := (upd_ne (o := .tup [.int 0, .str "f", .int 0]) (ne_of_none f2 h15)).trans f2
    have f3 := (upd_ne (o := .tup [.int 0, .str "f", .int 0]) (ne_of_none f3 h15)).trans f3
    have f4 := (upd_ne (o := .tup [.int 0, .str "f", .int 0]) (ne_of_none f4 h15)).trans f4
    have f5 := (upd_ne (o := .tup [.int 0, .str "f", .int 0]) (ne_of_none f5 h15)).trans f5
    have f6 := (upd_ne (o := .tup [.int 0, .str "f", .int 0]) (ne_of_none f6 h15)).trans f6
    have f7 := (upd_ne (o := .tup [.int 0, .str "f", .int 0]) (ne_of_none f7 h15)).trans f7
    have f8 := (upd_ne (o := .tup [.int 0, .str "f", .int 0]) (ne_of_none f8 h15)).trans f8
    have f9 := (upd_ne (o := .tup [.int 0, .str "f", .int 0]) (ne_of_none f9 h15)).trans f9
    have f10 := (upd_ne (o := .tup [.int 0, .str "f", .int 0]) (ne_of_none f10 h15)).trans f10
    have f11 := (upd_ne (o := .tup [.int 0, .str "f", .int 0]) (ne_of_none f11 h15)).trans f11
    have f12 := (upd_ne (o := .tup [.int 0, .str "f", .int 0]) (ne_of_none f12 h15)).trans f12
    have f14 := (upd_ne (o := .tup [.int 0, .str "f", .int 0]) (ne_of_none f14 h15)).trans f14
    generalize upd G14 t10 (.tup [.int 0, .str "f", .int 0]) = G15 at f1 f2 f3 f4 f5 f6 f7 f8 f9 f10 f11 f12 f14 f15 ⊢
    refine ⟨lt_line (by show 2 ≤ 1000000; decide), fun t11 h16 => ?_⟩
    have f16 := @upd_same G15 t11 (.tup [.ref t9, .ref t10])
    have f1 := (upd_ne (o := .tup [.ref t9, .ref t10]) (ne_of_none f1 h16)).trans f1
    have f2 := (upd_ne (o := .tup [.ref t9, .ref t10]) (ne_of_none f2 h16)).trans f2
    have f3 := (upd_ne (o := .tup [.ref t9, .ref t10]) (ne_of_none f3 h16)).trans f3
    have f4 := (upd_ne (o := .tup [.ref t9, .ref t10]) (ne_of_none f4 h16)).trans f4
    have f5 := (upd_ne (o := .tup [.ref t9, .ref t10]) (ne_of_none f5 h16)).trans f5
    have f6 := (upd_ne (o := .tup [.ref t9, .ref t10]) (ne_of_none f6 h16)).trans f6
    have f7 := (upd_ne (o := .tup [.ref t9, .ref t10]) (ne_of_none f7 h16)).trans f7
    have f8 := (upd_ne (o := .tup [.ref t9, .ref t10]) (ne_of_none f8 h16)).trans f8
    have f9 := (upd_ne (o := .tup [.ref t9, .ref t10]) (ne_of_none f9 h16)).trans f9
    have f10 := (upd_ne (o := .tup [.ref t9, .ref t10]) (ne_of_none f10 h16)).trans f10
    have f11 := (upd_ne (o := .tup [.ref t9, .ref t10]) (ne_of_none f11 h16)).trans f11
    have f12 := (upd_ne (o := .tup [.ref t9, .ref t10]) (ne_of_none f12 h16)).trans f12
    have f14 := (upd_ne (o := .tup [.ref t9, .ref t10]) (ne_of_none f14 h16)).trans f14
    have f15 := (upd_ne (o := .tup [.ref t9, .ref t10]) (ne_of_none f15 h16)).trans f15
    generalize upd G15 t11 (.tup [.ref t9, .ref t10]) = G16 at f1 f2 f3 f4 f5 f6 f7 f8 f9 f10 f11 f12 f14 f15 f16 ⊢
    refine ⟨c1, t11, _, _, rfl, rfl, .of f3, .of f16, lt_line (by show 41 ≤ 1000000; decide), (fun z => nomatch z), (fun _ z => nomatch z), fun _ _ c5 h17 => ?_⟩
    have f17 := @upd_same G16 c5 (.tup (List.replicate (39 : Int).toNat (V.ref t1) ++ [V.ref t9, V.ref t10]))
    have f1 := (upd_ne (o := .tup (List.replicate (39 : Int).toNat (V.ref t1) ++ [V.ref t9, V.ref t10])) (ne_of_none f1 h17)).trans f1
    have f2 := (upd_ne (o := .tup (List.replicate (39 : Int).toNat (V.ref t1) ++ [V.ref t9, V.ref t10])) (ne_of_none f2 h17)).trans f2
    have f3 := (upd_ne (o := .tup (List.replicate (39 : Int).toNat (V.ref t1) ++ [V.ref t9, V.ref t10])) (ne_of_none f3 h17)).trans f3
    have f4 := (upd_ne (o := .tup (List.replicate (39 : Int).toNat (V.ref t1) ++ [V.ref t9, V.ref t10])) (ne_of_none f4 h17)).trans f4
    have f5 := (upd_ne (o := .tup (List.replicate (39 : Int).toNat (V.ref t1) ++ [V.ref t9, V.ref t10])) (ne_of_none f5 h17)).trans f5
    have f6 := (upd_ne (o := .tup (List.replicate (39 : Int).toNat (V.ref t1) ++ [V.ref t9, V.ref t10])) (ne_of_none f6 h17)).trans f6
    have f7 := (upd_ne (o := .tup (List.replicate (39 : Int).toNat (V.ref t1) ++ [V.ref t9, V.ref t10])) (ne_of_none f7 h17)).trans f7
    have f8 := (upd_ne (o := .tup (List.replicate (39 : Int).toNat (V.ref t1) ++ [V.ref t9, V.ref t10])) (ne_of_none f8 h17)).trans f8
    have f9 := (upd_ne (o := .tup (List.replicate (39 : Int).toNat (V.ref t1) ++ [V.ref t9, V.ref t10])) (ne_of_none f9 h17)).trans f9
    have f10 := (upd_ne (o := .tup (List.replicate (39 : Int).toNat (V.ref t1) ++ [V.ref t9, V.ref t10])) (ne_of_none f10 h17)).trans f10
    have f11 := (upd_ne (o := .tup (List.replicate (39 : Int).toNat (V.ref t1) ++ [V.ref t9, V.ref t10])) (ne_of_none f11 h17)).trans f11
    have f12 := (upd_ne (o := .tup (List.replicate (39 : Int).toNat (V.ref t1) ++ [V.ref t9, V.ref t10])) (ne_of_none f12 h17)).trans f12
    have f14 := (upd_ne (o := .tup (List.replicate (39 : Int).toNat (V.ref t1) ++ [V.ref t9, V.ref t10])) (ne_of_none f14 h17)).trans f14
    have f15 := (upd_ne (o := .tup (List.replicate (39 : Int).toNat (V.ref t1) ++ [V.ref t9, V.ref t10])) (ne_of_none f15 h17)).trans f15
    have f16 := (upd_ne (o := .tup (List.replicate (39 : Int).toNat (V.ref t1) ++ [V.ref t9, V.ref t10])) (ne_of_none f16 h17)).trans f16
    generalize upd G16 c5 (.tup (List.replicate (39 : Int).toNat (V.ref t1) ++ [V.ref t9, V.ref t10])) = G17 at f1 f2 f3 f4 f5 f6 f7 f8 f9 f10 f11 f12 f14 f15 f16 f17 ⊢
    refine ⟨_, rfl, .inr ⟨c5, List.replicate (39 : Int).toNat (V.ref t1) ++ [V.ref t9, V.ref t10], (List.replicate 39 (n3 0 "f" 1) ++ [n3 0 "f" 1, n3 0 "f" 0]), rfl, f17, by show 41 ≤ 1000; decide, NdsV.app (ys := [_, _]) (ms := [_, _]) (NdsV.rep (nd_some (K := K) f1 (by decide +kernel)) 39) ⟨nd_some (K := K) f14 (by decide +kernel), nd_some (K := K) f15 (by decide +kernel), trivial⟩, fun K18 z18 => ?_⟩⟩
    rw [show fineN ((List.replicate 39 (n3 0 "f" 1) ++ [n3 0 "f" 1, n3 0 "f" 0])) = false by decide +kernel]
    have f1 := z18 _ _ f1
    have f2 := z18 _ _ f2
    have f3 := z18 _ _ f3
    have f4 := z18 _ _ f4
    have f5 := z18 _ _ f5
    have f6 := z18 _ _ f6
    have f7 := z18 _ _ f7
    have f8 := z18 _ _ f8
    have f9 := z18 _ _ f9
    have f10 := z18 _ _ f10
    have f11 := z18 _ _ f11
    have f12 := z18 _ _ f12
    have f14 := z18 _ _ f14
    have f15 := z18 _ _ f15
    have f16 := z18 _ _ f16
    have f17 := z18 _ _ f17
    refine ⟨lt_line (by show 2 ≤ 1000000; decide), fun l1 h19 => ?_⟩
    have f19 := @upd_same K18 l1 (.lst [.bl true, .bl false])
    have f1 := (upd_ne (o := .lst [.bl true, .bl false]) (ne_of_none f1 h19)).trans f1
    have f2 := (upd_ne (o := .lst [.bl true, .bl false]) (ne_of_none f2 h19)).trans f2
    have f3 := (upd_ne (o := .lst [.bl true, .bl false]) (ne_of_none f3 h19)).trans f3
    have f4 := (upd_ne (o := .lst [.bl true, .bl false]) (ne_of_none f4 h19)).trans f4
    have f5 := (upd_ne (o := .lst [.bl true, .bl false]) (ne_of_none f5 h19)).trans f5
    have f6 := (upd_ne (o := .lst [.bl true, .bl false]) (ne_of_none f6 h19)).trans f6
    have f7 := (upd_ne (o := .lst [.bl true, .bl false]) (ne_of_none f7 h19)).trans f7
    have f8 := (upd_ne (o := .lst [.bl true, .bl false]) (ne_of_none f8 h19)).trans f8
    have f9 := (upd_ne (o := .lst [.bl true, .bl false]) (ne_of_none f9 h19)).trans f9
    have f10 := (upd_ne (o := .lst [.bl true, .bl false]) (ne_of_none f10 h19)).trans f10
    have f11 := (upd_ne (o := .lst [.bl true, .bl false]) (ne_of_none f11 h19)).trans f11
    have f12 := (upd_ne (o := .lst [.bl true, .bl false]) (ne_of_none f12 h19)).trans f12
    have f14 := (upd_ne (o := .lst [.bl true, .bl false]) (ne_of_none f14 h19)).trans f14
    have f15 := (upd_ne (o := .lst [.bl true, .bl false]) (ne_of_none f15 h19)).trans f15
    have f16 := (upd_ne (o := .lst [.bl true, .bl false]) (ne_of_none f16 h19)).trans f16
    have f17 := (upd_ne (o := .lst [.bl true, .bl false]) (ne_of_none f17 h19)).trans f17
    generalize upd K18 l1 (.lst [.bl true, .bl false]) = G19 at f1 f2 f3 f4 f5 f6 f7 f8 f9 f10 f11 f12 f14 f15 f16 f17 f19 ⊢
    refine asg_go2 ?_
    dsimp only [List.set]
    refine ⟨.ref l1, rfl, .ref c3, rfl, ?_⟩
    refine ⟨_, rfl, .inr ⟨c3, List.replicate (6 : Int).toNat (V.ref t3) ++ [V.ref t5], (List.replicate 6 (n3 15 "f" 1) ++ [n3 10 "x99" 0]), rfl, f9, by show 7 ≤ 1000; decide, NdsV.app (ys := [_]) (ms := [_]) (NdsV.rep (nd_some (K := K) f4 (by decide +kernel)) 6) ⟨nd_some (K := K) f7 (by decide +kernel), trivial⟩, fun K20 z20 => ?_⟩⟩
    rw [show fineN ((List.replicate 6 (n3 15 "f" 1) ++ [n3 10 "x99" 0])) = true by decide +kernel]
    have f1 := z20 _ _ f1
    have f2 := z20 _ _ f2
    have f3 := z20 _ _ f3
    have f4 := z20 _ _ f4
    have f5 := z20 _ _ f5
    have f6 := z20 _ _ f6
    have f7 := z20 _ _ f7
    have f8 := z20 _ _ f8
    have f9 := z20 _ _ f9
    have f10 := z20 _ _ f10
    have f11 := z20 _ _ f11
    have f12 := z20 _ _ f12
    have f14 := z20 _ _ f14
    have f15 := z20 _ _ f15
    have f16 := z20 _ _ f16
    have f17 := z20 _ _ f17
    have f19 := z20 _ _ f19
    refine ⟨.ref c3, rfl, 6, rfl, c3, _, rfl, SqT.of f9, (fun z => absurd z.2 (by show ¬ 6 = 7; decide)), fun _ c6 h21 => ?_⟩
    rw [show cutV (List.replicate (6 : Int).toNat (V.ref t3) ++ [V.ref t5]) none (some 6) = List.replicate (6 : Int).toNat (V.ref t3) from rfl]
    have f21 := @upd_same K20 c6 (.tup (List.replicate (6 : Int).toNat (V.ref t3)))
    have f1 := (upd_ne (o := .tup (List.replicate (6 : Int).toNat (V.ref t3))) (ne_of_none f1 h21)).trans f1
    have f2 := (upd_ne (o := .tup (List.replicate (6 : Int).toNat (V.ref t3))) (ne_of_none f2 h21)).trans f2
    have f3 := (upd_ne (o := .tup (List.replicate (6 : Int).toNat (V.ref t3))) (ne_of_none f3 h21)).trans f3
    have f4 := (upd_ne (o := .tup (List.replicate (6 : Int).toNat (V.ref t3))) (ne_of_none f4 h21)).trans f4
    have f5 := (upd_ne (o := .tup (List.replicate (6 : Int).toNat (V.ref t3))) (ne_of_none f5 h21)).trans f5
    have f6 := (upd_ne (o := .tup (List.replicate (6 : Int).toNat (V.ref t3))) (ne_of_none f6 h21)).trans f6
    have f7 := (upd_ne (o := .tup (List.replicate (6 : Int).toNat (V.ref t3))) (ne_of_none f7 h21)).trans f7
    have f8 := (upd_ne (o := .tup (List.replicate (6 : Int).toNat (V.ref t3))) (ne_of_none f8 h21)).trans f8
    have f9 := (upd_ne (o := .tup (List.replicate (6 : Int).toNat (V.ref t3))) (ne_of_none f9 h21)).trans f9
    have f10 := (upd_ne (o := .tup (List.replicate (6 : Int).toNat (V.ref t3))) (ne_of_none f10 h21)).trans f10
    have f11 := (upd_ne (o := .tup (List.replicate (6 : Int).toNat (V.ref t3))) (ne_of_none f11 h21)).trans f11
    have f12 := (upd_ne (o := .tup (List.replicate (6 : Int).toNat (V.ref t3))) (ne_of_none f12 h21)).trans f12
    have f14 := (upd_ne (o := .tup (List.replicate (6 : Int).toNat (V.ref t3))) (ne_of_none f14 h21)).trans f14
    have f15 := (upd_ne (o := .tup (List.replicate (6 : Int).toNat (V.ref t3))) (ne_of_none f15 h21)).trans f15
    have f16 := (upd_ne (o := .tup (List.replicate (6 : Int).toNat (V.ref t3))) (ne_of_none f16 h21)).trans f16
    have f17 := (upd_ne (o := .tup (List.replicate (6 : Int).toNat (V.ref t3))) (ne_of_none f17 h21)).trans f17
    have f19 := (upd_ne (o := .tup (List.replicate (6 : Int).toNat (V.ref t3))) (ne_of_none f19 h21)).trans f19
    generalize upd K20 c6 (.tup (List.replicate (6 : Int).toNat (V.ref t3))) = G21 at f1 f2 f3 f4 f5 f6 f7 f8 f9 f10 f11 f12 f14 f15 f16 f17 f19 f21 ⊢
    refine ⟨lt_line (by show 3 ≤ 1000000; decide), fun t12 h22 => ?_⟩
    have f22 := @upd_same G21 t12 (.tup [.int 11, .str "f", .int 0])
    have f1 := (upd_ne (o := .tup [.int 11, .str "f", .int 0]) (ne_of_none f1 h22)).trans f1
    have f2 := (upd_ne (o := .tup [.int 11, .str "f", .int 0]) (ne_of_none f2 h22)).trans f2
    have f3 := (upd_ne (o := .tup [.int 11, .str "f", .int 0]) (ne_of_none f3 h22)).trans f3
    have f4 := (upd_ne (o := .tup [.int 11, .str "f", .int 0]) (ne_of_none f4 h22)).trans f4
    have f5 := (upd_ne (o := .tup [.int 11, .str "f", .int 0]) (ne_of_none f5 h22)).trans f5
    have f6 := (upd_ne (o := .tup [.int 11, .str "f", .int 0]) (ne_of_none f6 h22)).trans f6
    have f7 := (upd_ne (o := .tup [.int 11, .str "f", .int 0]) (ne_of_none f7 h22)).trans f7
    have f8 := (upd_ne (o := .tup [.int 11, .str "f", .int 0]) (ne_of_none f8 h22)).trans f8
    have f9 := (upd_ne (o := .tup [.int 11, .str "f", .int 0]) (ne_of_none f9 h22)).trans f9
    have f10 := (upd_ne (o := .tup [.int 11, .str "f", .int 0]) (ne_of_none f10 h22)).trans f10
    have f11 := (upd_ne (o := .tup [.int 11, .str "f", .int 0]) (ne_of_none f11 h22)).trans f11
    have f12 := (upd_ne (o := .tup [.int 11, .str "f", .int 0]) (ne_of_none f12 h22)).trans f12
    have f14 := (upd_ne (o := .tup [.int 11, .str "f", .int 0]) (ne_of_none f14 h22)).trans f14
    have f15 := (upd_ne (o := .tup [.int 11, .str "f", .int 0]) (ne_of_none f15 h22)).trans f15
    have f16 := (upd_ne (o := .tup [.int 11, .str "f", .int 0]) (ne_of_none f16 h22)).trans f16
    have f17 := (upd_ne (o := .tup [.int 11, .str "f", .int 0]) (ne_of_none f17 h22)).trans f17
    have f19 := (upd_ne (o := .tup [.int 11, .str "f", .int 0]) (ne_of_none f19 h22)).trans f19
    have f21 := (upd_ne (o := .tup [.int 11, .str "f", .int 0]) (ne_of_none f21 h22)).trans f21
    generalize upd G21 t12 (.tup [.int 11, .str "f", .int 0]) = G22 at f1 f2 f3 f4 f5 f6 f7 f8 f9 f10 f11 f12 f14 f15 f16 f17 f19 f21 f22 ⊢
    refine ⟨lt_line (by show 1 ≤ 1000000; decide), fun t13 h23 => ?_⟩
    have f23 := @upd_same G22 t13 (.tup [.ref t12])
    have f1 := (upd_ne (o := .tup [.ref t12]) (ne_of_none f1 h23)).trans f1
    have f2 := (upd_ne (o := .tup [.ref t12]) (ne_of_none f2 h23)).trans f2
    have f3 := (upd_ne (o := .tup [.ref t12]) (ne_of_none f3 h23)).trans f3
    have f4 := (upd_ne (o := .tup [.ref t12]) (ne_of_none f4 h23)).trans f4
    have f5 := (upd_ne (o := .tup [.ref t12]) (ne_of_none f5 h23)).trans f5
    have f6 := (upd_ne (o := .tup [.ref t12]) (ne_of_none f6 h23)).trans f6
    have f7 := (upd_ne (o := .tup [.ref t12]) (ne_of_none f7 h23)).trans f7
    have f8 := (upd_ne (o := .tup [.ref t12]) (ne_of_none f8 h23)).trans f8
    have f9 := (upd_ne (o := .tup [.ref t12]) (ne_of_none f9 h23)).trans f9
    have f10 := (upd_ne (o := .tup [.ref t12]) (ne_of_none f10 h23)).trans f10
    have f11 := (upd_ne (o := .tup [.ref t12]) (ne_of_none f11 h23)).trans f11
    have f12 := (upd_ne (o := .tup [.ref t12]) (ne_of_none f12 h23)).trans f12
    have f14 := (upd_ne (o := .tup [.ref t12]) (ne_of_none f14 h23)).trans f14
    have f15 := (upd_ne (o := .tup [.ref t12]) (ne_of_none f15 h23)).trans f15
    have f16 := (upd_ne (o := .tup [.ref t12]) (ne_of_none f16 h23)).trans f16
    have f17 := (upd_ne (o := .tup [.ref t12]) (ne_of_none f17 h23)).trans f17
    have f19 := (upd_ne (o := .tup [.ref t12]) (ne_of_none f19 h23)).trans f19
    have f21 := (upd_ne (o := .tup [.ref t12]) (ne_of_none f21 h23)).trans f21
    have f22 := (upd_ne (o := .tup [.ref t12]) (ne_of_none f22 h23)).trans f22
    generalize upd G22 t13 (.tup [.ref t12]) = G23 at f1 f2 f3 f4 f5 f6 f7 f8 f9 f10 f11 f12 f14 f15 f16 f17 f19 f21 f22 f23 ⊢
    refine ⟨c6, t13, _, _, rfl, rfl, .of f21, .of f23, lt_line (by show 7 ≤ 1000000; decide), (fun z => nomatch z), (fun _ z => nomatch z), fun _ _ c7 h24 => ?_⟩
    have f24 := @upd_same G23 c7 (.tup (List.replicate (6 : Int).toNat (V.ref t3) ++ [V.ref t12]))
    have f1 := (upd_ne (o := .tup (List.replicate (6 : Int).toNat (V.ref t3) ++ [V.ref t12])) (ne_of_none f1 h24)).trans f1
    have f2 := (upd_ne (o := .tup (List.replicate (6 : Int).toNat (V.ref t3) ++ [V.ref t12])) (ne_of_none f2 h24)).trans f2
    have f3 := (upd_ne (o := .tup (List.replicate (6 : Int).toNat (V.ref t3) ++ [V.ref t12])) (ne_of_none f3 h24)).trans f3
    have f4 := (upd_ne (o := .tup (List.replicate (6 : Int).toNat (V.ref t3) ++ [V.ref t12])) (ne_of_none f4 h24)).trans f4
    have f5 := (upd_ne (o := .tup (List.replicate (6 : Int).toNat (V.ref t3) ++ [V.ref t12])) (ne_of_none f5 h24)).trans f5
    have f6 := (upd_ne (o := .tup (List.replicate (6 : Int).toNat (V.ref t3) ++ [V.ref t12])) (ne_of_none f6 h24)).trans f6
    have f7 := (upd_ne (o := .tup (List.replicate (6 : Int).toNat (V.ref t3) ++ [V.ref t12])) (ne_of_none f7 h24)).trans f7
    have f8 := (upd_ne (o := .tup (List.replicate (6 : Int).toNat (V.ref t3) ++ [V.ref t12])) (ne_of_none f8 h24)).trans f8
    have f9 := (upd_ne (o := .tup (List.replicate (6 : Int).toNat (V.ref t3) ++ [V.ref t12])) (ne_of_none f9 h24)).trans f9
    have f10 := (upd_ne (o := .tup (List.replicate (6 : Int).toNat (V.ref t3) ++ [V.ref t12])) (ne_of_none f10 h24)).trans f10
    have f11 := (upd_ne (o := .tup (List.replicate (6 : Int).toNat (V.ref t3) ++ [V.ref t12])) (ne_of_none f11 h24)).trans f11
    have f12 := (upd_ne (o := .tup (List.replicate (6 : Int).toNat (V.ref t3) ++ [V.ref t12])) (ne_of_none f12 h24)).trans f12
    have f14 := (upd_ne (o := .tup (List.replicate (6 : Int).toNat (V.ref t3) ++ [V.ref t12])) (ne_of_none f14 h24)).trans f14
    have f15 := (upd_ne (o := .tup (List.replicate (6 : Int).toNat (V.ref t3) ++ [V.ref t12])) (ne_of_none f15 h24)).trans f15
    have f16 := (upd_ne (o := .tup (List.replicate (6 : Int).toNat (V.ref t3) ++ [V.ref t12])) (ne_of_none f16 h24)).trans f16
    have f17 := (upd_ne (o := .tup (List.replicate (6 : Int).toNat (V.ref t3) ++ [V.ref t12])) (ne_of_none f17 h24)).trans f17
    have f19 := (upd_ne (o := .tup (List.replicate (6 : Int).toNat (V.ref t3) ++ [V.ref t12])) (ne_of_none f19 h24)).trans f19
    have f21 := (upd_ne (o := .tup (List.replicate (6 : Int).toNat (V.ref t3) ++ [V.ref t12])) (ne_of_none f21 h24)).trans f21
    have f22 := (upd_ne (o := .tup (List.replicate (6 : Int).toNat (V.ref t3) ++ [V.ref t12])) (ne_of_none f22 h24)).trans f22
    have f23 := (upd_ne (o := .tup (List.replicate (6 : Int).toNat (V.ref t3) ++ [V.ref t12])) (ne_of_none f23 h24)).trans f23
    generalize upd G23 c7 (.tup (List.replicate (6 : Int).toNat (V.ref t3) ++ [V.ref t12])) = G24 at f1 f2 f3 f4 f5 f6 f7 f8 f9 f10 f11 f12 f14 f15 f16 f17 f19 f21 f22 f23 f24 ⊢
    refine ⟨_, rfl, .inr ⟨c7, List.replicate (6 : Int).toNat (V.ref t3) ++ [V.ref t12], (List.replicate 6 (n3 15 "f" 1) ++ [n3 11 "f" 0]), rfl, f24, by show 7 ≤ 1000; decide, NdsV.app (ys := [_]) (ms := [_]) (NdsV.rep (nd_some (K := K) f4 (by decide +kernel)) 6) ⟨nd_some (K := K) f22 (by decide +kernel), trivial⟩, fun K25 z25 => ?_⟩⟩
    rw [show fineN ((List.replicate 6 (n3 15 "f" 1) ++ [n3 11 "f" 0])) = false by decide +kernel]
    have f1 := z25 _ _ f1
    have f2 := z25 _ _ f2
    have f3 := z25 _ _ f3
    have f4 := z25 _ _ f4
    have f5 := z25 _ _ f5
    have f6 := z25 _ _ f6
    have f7 := z25 _ _ f7
    have f8 := z25 _ _ f8
    have f9 := z25 _ _ f9
    have f10 := z25 _ _ f10
    have f11 := z25 _ _ f11
    have f12 := z25 _ _ f12
    have f14 := z25 _ _ f14
    have f15 := z25 _ _ f15
    have f16 := z25 _ _ f16
    have f17 := z25 _ _ f17
    have f19 := z25 _ _ f19
    have f21 := z25 _ _ f21
    have f22 := z25 _ _ f22
    have f23 := z25 _ _ f23
    have f24 := z25 _ _ f24
    refine ⟨lt_line (by show 2 ≤ 1000000; decide), fun l2 h26 => ?_⟩
    have f26 := @upd_same K25 l2 (.lst [.bl true, .bl false])
    have f1 := (upd_ne (o := .lst [.bl true, .bl false]) (ne_of_none f1 h26)).trans f1
    have f2 := (upd_ne (o := .lst [.bl true, .bl false]) (ne_of_none f2 h26)).trans f2
    have f3 := (upd_ne (o := .lst [.bl true, .bl false]) (ne_of_none f3 h26)).trans f3
    have f4 := (upd_ne (o := .lst [.bl true, .bl false]) (ne_of_none f4 h26)).trans f4
    have f5 := (upd_ne (o := .lst [.bl true, .bl false]) (ne_of_none f5 h26)).trans f5
    have f6 := (upd_ne (o := .lst [.bl true, .bl false]) (ne_of_none f6 h26)).trans f6
    have f7 := (upd_ne (o := .lst [.bl true, .bl false]) (ne_of_none f7 h26)).trans f7
    have f8 := (upd_ne (o := .lst [.bl true, .bl false]) (ne_of_none f8 h26)).trans f8
    have f9 := (upd_ne (o := .lst [.bl true, .bl false]) (ne_of_none f9 h26)).trans f9
    have f10 := (upd_ne (o := .lst [.bl true, .bl false]) (ne_of_none f10 h26)).trans f10
    have f11 := (upd_ne (o := .lst [.bl true, .bl false]) (ne_of_none f11 h26)).trans f11
    have f12 := (upd_ne (o := .lst [.bl true, .bl false]) (ne_of_none f12 h26)).trans f12
    have f14 := (upd_ne (o := .lst [.bl true, .bl false]) (ne_of_none f14 h26)).trans f14
    have f15 := (upd_ne (o := .lst [.bl true, .bl false]) (ne_of_none f15 h26)).trans f15
    have f16 := (upd_ne (o := .lst [.bl true, .bl false]) (ne_of_none f16 h26)).trans f16
    have f17 := (upd_ne (o := .lst [.bl true, .bl false]) (ne_of_none f17 h26)).trans f17
    have f19 := (upd_ne (o := .lst [.bl true, .bl false]) (ne_of_none f19 h26)).trans f19
    have f21 := (upd_ne (o := .lst [.bl true, .bl false]) (ne_of_none f21 h26)).trans f21
    have f22 := (upd_ne (o := .lst [.bl true, .bl false]) (ne_of_none f22 h26)).trans f22
    have f23 := (upd_ne (o := .lst [.bl true, .bl false]) (ne_of_none f23 h26)).trans f23
    have f24 := (upd_ne (o := .lst [.bl true, .bl false]) (ne_of_none f24 h26)).trans f24
    generalize upd K25 l2 (.lst [.bl true, .bl false]) = G26 at f1 f2 f3 f4 f5 f6 f7 f8 f9 f10 f11 f12 f14 f15 f16 f17 f19 f21 f22 f23 f24 f26 ⊢
    refine ⟨l1, l2, _, _, rfl, rfl, f19, f26, lt_line (by show 4 ≤ 1000000; decide), fun l3 h27 => ?_⟩
    have f27 := @upd_same G26 l3 (.lst ([V.bl true, .bl false] ++ [.bl true, .bl false]))
    have f1 := (upd_ne (o := .lst ([V.bl true, .bl false] ++ [.bl true, .bl false])) (ne_of_none f1 h27)).trans f1
    have f2 := (upd_ne (o := .lst ([V.bl true, .bl false] ++ [.bl true, .bl false])) (ne_of_none f2 h27)).trans f2
    have f3 := (upd_ne (o := .lst ([V.bl true, .bl false] ++ [.bl true, .bl false])) (ne_of_none f3 h27)).trans f3
    have f4 := (upd_ne (o := .lst ([V.bl true, .bl false] ++ [.bl true, .bl false])) (ne_of_none f4 h27)).trans f4
    have f5 := (upd_ne (o := .lst ([V.bl true, .bl false] ++ [.bl true, .bl false])) (ne_of_none f5 h27)).trans f5
    have f6 := (upd_ne (o := .lst ([V.bl true, .bl false] ++ [.bl true, .bl false])) (ne_of_none f6 h27)).trans f6
    have f7 := (upd_ne (o := .lst ([V.bl true, .bl false] ++ [.bl true, .bl false])) (ne_of_none f7 h27)).trans f7
    have f8 := (upd_ne (o := .lst ([V.bl true, .bl false] ++ [.bl true, .bl false])) (ne_of_none f8 h27)).trans f8
    have f9 := (upd_ne (o := .lst ([V.bl true, .bl false] ++ [.bl true, .bl false])) (ne_of_none f9 h27)).trans f9
    have f10 := (upd_ne (o := .lst ([V.bl true, .bl false] ++ [.bl true, .bl false])) (ne_of_none f10 h27)).trans f10
    have f11 := (upd_ne (o := .lst ([V.bl true, .bl false] ++ [.bl true, .bl false])) (ne_of_none f11 h27)).trans f11
    have f12 := (upd_ne (o := .lst ([V.bl true, .bl false] ++ [.bl true, .bl false])) (ne_of_none f12 h27)).trans f12
    have f14 := (upd_ne (o := .lst ([V.bl true, .bl false] ++ [.bl true, .bl false])) (ne_of_none f14 h27)).trans f14
    have f15 := (upd_ne (o := .lst ([V.bl true, .bl false] ++ [.bl true, .bl false])) (ne_of_none f15 h27)).trans f15
    have f16 := (upd_ne (o := .lst ([V.bl true, .bl false] ++ [.bl true, .bl false])) (ne_of_none f16 h27)).trans f16
    have f17 := (upd_ne (o := .lst ([V.bl true, .bl false] ++ [.bl true, .bl false])) (ne_of_none f17 h27)).trans f17
    have f19 := (upd_ne (o := .lst ([V.bl true, .bl false] ++ [.bl true, .bl false])) (ne_of_none f19 h27)).trans f19
    have f21 := (upd_ne (o := .lst ([V.bl true, .bl false] ++ [.bl true, .bl false])) (ne_of_none f21 h27)).trans f21
    have f22 := (upd_ne (o := .lst ([V.bl true, .bl false] ++ [.bl true, .bl false])) (ne_of_none f22 h27)).trans f22
    have f23 := (upd_ne (o := .lst ([V.bl true, .bl false] ++ [.bl true, .bl false])) (ne_of_none f23 h27)).trans f23
    have f24 := (upd_ne (o := .lst ([V.bl true, .bl false] ++ [.bl true, .bl false])) (ne_of_none f24 h27)).trans f24
    have f26 := (upd_ne (o := .lst ([V.bl true, .bl false] ++ [.bl true, .bl false])) (ne_of_none f26 h27)).trans f26
    generalize upd G26 l3 (.lst ([V.bl true, .bl false] ++ [.bl true, .bl false])) = G27 at f1 f2 f3 f4 f5 f6 f7 f8 f9 f10 f11 f12 f14 f15 f16 f17 f19 f21 f22 f23 f24 f26 f27 ⊢
    refine ⟨lt_line (by show 4 ≤ 1000000; decide), fun l4 h28 => ?_⟩
    have f28 := @upd_same G27 l4 (.lst [.bl true, .bl false, .bl true, .bl false])
    have f1 := (upd_ne (o := .lst [.bl true, .bl false, .bl true, .bl false]) (ne_of_none f1 h28)).trans f1
    have f2 := (upd_ne (o := .lst [.bl true, .bl false, .bl true, .bl false]) (ne_of_none f2 h28)).trans f2
    have f3 := (upd_ne (o := .lst [.bl true, .bl false, .bl true, .bl false]) (ne_of_none f3 h28)).trans f3
    have f4 := (upd_ne (o := .lst [.bl true, .bl false, .bl true, .bl false]) (ne_of_none f4 h28)).trans f4
    have f5 := (upd_ne (o := .lst [.bl true, .bl false, .bl true, .bl false]) (ne_of_none f5 h28)).trans f5
    have f6 := (upd_ne (o := .lst [.bl true, .bl false, .bl true, .bl false]) (ne_of_none f6 h28)).trans f6
    have f7 := (upd_ne (o := .lst [.bl true, .bl false, .bl true, .bl false]) (ne_of_none f7 h28)).trans f7
    have f8 := (upd_ne (o := .lst [.bl true, .bl false, .bl true, .bl false]) (ne_of_none f8 h28)).trans f8
    have f9 := (upd_ne (o := .lst [.bl true, .bl false, .bl true, .bl false]) (ne_of_none f9 h28)).trans f9
    have f10 := (upd_ne (o := .lst [.bl true, .bl false, .bl true, .bl false]) (ne_of_none f10 h28)).trans f10
    have f11 := (upd_ne (o := .lst [.bl true, .bl false, .bl true, .bl false]) (ne_of_none f11 h28)).trans f11
    have f12 := (upd_ne (o := .lst [.bl true, .bl false, .bl true, .bl false]) (ne_of_none f12 h28)).trans f12
    have f14 := (upd_ne (o := .lst [.bl true, .bl false, .bl true, .bl false]) (ne_of_none f14 h28)).trans f14
    have f15 := (upd_ne (o := .lst [.bl true, .bl false, .bl true, .bl false]) (ne_of_none f15 h28)).trans f15
    have f16 := (upd_ne (o := .lst [.bl true, .bl false, .bl true, .bl false]) (ne_of_none f16 h28)).trans f16
    have f17 := (upd_ne (o := .lst [.bl true, .bl false, .bl true, .bl false]) (ne_of_none f17 h28)).trans f17
    have f19 := (upd_ne (o := .lst [.bl true, .bl false, .bl true, .bl false]) (ne_of_none f19 h28)).trans f19
    have f21 := (upd_ne (o := .lst [.bl true, .bl false, .bl true, .bl false]) (ne_of_none f21 h28)).trans f21
    have f22 := (upd_ne (o := .lst [.bl true, .bl false, .bl true, .bl false]) (ne_of_none f22 h28)).trans f22
    have f23 := (upd_ne (o := .lst [.bl true, .bl false, .bl true, .bl false]) (ne_of_none f23 h28)).trans f23
    have f24 := (upd_ne (o := .lst [.bl true, .bl false, .bl true, .bl false]) (ne_of_none f24 h28)).trans f24
    have f26 := (upd_ne (o := .lst [.bl true, .bl false, .bl true, .bl false]) (ne_of_none f26 h28)).trans f26
    have f27 := (upd_ne (o := .lst [.bl true, .bl false, .bl true, .bl false]) (ne_of_none f27 h28)).trans f27
    generalize upd G27 l4 (.lst [.bl true, .bl false, .bl true, .bl false]) = G28 at f1 f2 f3 f4 f5 f6 f7 f8 f9 f10 f11 f12 f14 f15 f16 f17 f19 f21 f22 f23 f24 f26 f27 f28 ⊢
    exact ⟨.list [.bool true, .bool false, .bool true, .bool false], .list [.bool true, .bool false, .bool true, .bool false], .lst (SqL.of f27) (dp_bls [true, false, true, false]), .lst (SqL.of f28) (dp_bls [true, false, true, false]), by decide, by decide, q _⟩
end


end My
namespace My
open PySem PySem.Spec PyProof.Rows L2 TL
theorem odd_of {K : PySem.W.Frag} {C : Addr} {T : String} (hd : PySem.W.hasDictIn K C = true) (ty : PySem.W.typeIn K (.ref C) = some (.type "type")) (sb : PySem.W.subIn K (.type T) (.ref C) = some false) : PySem.W.kitOne K (.type T) (.ref C) = some false := by
  have h : (PySem.W.clsIn K C).isSome = true := by
    unfold PySem.W.hasDictIn at hd
    cases e : PySem.W.clsIn K C with
    | none => rw [e] at hd; cases hd
    | some c => rfl
  unfold PySem.W.kitOne
  have e : (Value.type T == Value.ref C) = false := by first | rfl | (apply Bool.eq_false_iff.mpr; intro z; exact Value.noConfusion (eq_of_beq z)) | simp
  rw [e]
  show (if ((PySem.W.clsIn K C).isSome && PySem.W.typeIn K (.ref C) == some (.type "type")) = true then PySem.W.subIn K (.type T) (.ref C) else none) = some false
  rw [if_pos (by rw [h, ty]; decide +kernel)]
  exact sb
theorem ni_of {K : PySem.W.Frag} {C : Addr} {T : String} (km : PySem.W.kitMeta T = true) (sb : PySem.W.subIn K (.ref C) (.type T) = some false) : PySem.W.kitOne K (.ref C) (.type T) = some false := by
  unfold PySem.W.kitOne
  have e : (Value.ref C == Value.type T) = false := by first | rfl | (apply Bool.eq_false_iff.mpr; intro z; exact Value.noConfusion (eq_of_beq z)) | simp
  rw [e]
  show (if PySem.W.kitMeta T = true then PySem.W.subIn K (.ref C) (.type T) else none) = some false
  rw [if_pos km]
  exact sb

theorem all_mk {l : PySem.W.OpenLaw} {w : World} {K : PySem.W.Frag} {h : Heap} {mg : Str → Option Value} {fa : Addr} (X : K.In h) (G : h.Ns mainGlobals mg) (hfa : mg "law" = some (.ref fa))
     {C_Program : Addr} {f_Program_nodes : Addr} {od_Program_nodes an_Program_nodes : Option Addr} {sl_Program_nodes : Array (Option Value)} {oc_Program_nodes kV_Program_nodes dc_Program_nodes pm_Program_nodes cd_Program_nodes ct_Program_nodes : Value} {p_Program_nodes : Addr} {rs_Program_nodes : List Value} {f_bounds_of : Addr} {od_bounds_of an_bounds_of : Option Addr} {sl_bounds_of : Array (Option Value)} {oc_bounds_of kV_bounds_of dc_bounds_of pm_bounds_of cd_bounds_of ct_bounds_of : Value} {f_text_of_nodes : Addr} {od_text_of_nodes an_text_of_nodes : Option Addr} {sl_text_of_nodes : Array (Option Value)} {oc_text_of_nodes kV_text_of_nodes dc_text_of_nodes pm_text_of_nodes cd_text_of_nodes ct_text_of_nodes : Value} {f_places_above : Addr} {od_places_above an_places_above : Option Addr} {sl_places_above : Array (Option Value)} {oc_places_above kV_places_above dc_places_above pm_places_above cd_places_above ct_places_above : Value} {f_gaps_of : Addr} {od_gaps_of an_gaps_of : Option Addr} {sl_gaps_of : Array (Option Value)} {oc_gaps_of kV_gaps_of dc_gaps_of pm_gaps_of cd_gaps_of ct_gaps_of : Value} {f_is_variable : Addr} {od_is_variable an_is_variable : Option Addr} {sl_is_variable : Array (Option Value)} {oc_is_variable kV_is_variable dc_is_variable pm_is_variable cd_is_variable ct_is_variable : Value} {f_is_word : Addr} {od_is_word an_is_word : Option Addr} {sl_is_word : Array (Option Value)} {oc_is_word kV_is_word dc_is_word pm_is_word cd_is_word ct_is_word : Value} {f_is_integer : Addr} {od_is_integer an_is_integer : Option Addr} {sl_is_integer : Array (Option Value)} {oc_is_integer kV_is_integer dc_is_integer pm_is_integer cd_is_integer ct_is_integer : Value} {f__is_count : Addr} {od__is_count an__is_count : Option Addr} {sl__is_count : Array (Option Value)} {oc__is_count kV__is_count dc__is_count pm__is_count cd__is_count ct__is_count : Value} {f__is_node : Addr} {od__is_node an__is_node : Option Addr} {sl__is_node : Array (Option Value)} {oc__is_node kV__is_node dc__is_node pm__is_node cd__is_node ct__is_node : Value} {f_level_of : Addr} {od_level_of an_level_of : Option Addr} {sl_level_of : Array (Option Value)} {oc_level_of kV_level_of dc_level_of pm_level_of cd_level_of ct_level_of : Value} {f_are_nodes : Addr} {od_are_nodes an_are_nodes : Option Addr} {sl_are_nodes : Array (Option Value)} {oc_are_nodes kV_are_nodes dc_are_nodes pm_are_nodes cd_are_nodes ct_are_nodes : Value} {f_Program___init__ : Addr} {od_Program___init__ an_Program___init__ : Option Addr} {sl_Program___init__ : Array (Option Value)} {oc_Program___init__ kV_Program___init__ dc_Program___init__ pm_Program___init__ cd_Program___init__ ct_Program___init__ : Value} {f__law_is_taken : Addr} {od__law_is_taken an__law_is_taken : Option Addr} {sl__law_is_taken : Array (Option Value)} {oc__law_is_taken kV__law_is_taken dc__law_is_taken pm__law_is_taken cd__law_is_taken ct__law_is_taken : Value} {f__law_program_nodes : Addr} {od__law_program_nodes an__law_program_nodes : Option Addr} {sl__law_program_nodes : Array (Option Value)} {oc__law_program_nodes kV__law_program_nodes dc__law_program_nodes pm__law_program_nodes cd__law_program_nodes ct__law_program_nodes : Value} {f__law_roll : Addr} {od__law_roll an__law_roll : Option Addr} {sl__law_roll : Array (Option Value)} {oc__law_roll kV__law_roll dc__law_roll pm__law_roll cd__law_roll ct__law_roll : Value} {f__law_pick : Addr} {od__law_pick an__law_pick : Option Addr} {sl__law_pick : Array (Option Value)} {oc__law_pick kV__law_pick dc__law_pick pm__law_pick cd__law_pick ct__law_pick : Value} {f__law_program_parts : Addr} {od__law_program_parts an__law_program_parts : Option Addr} {sl__law_program_parts : Array (Option Value)} {oc__law_program_parts kV__law_program_parts dc__law_program_parts pm__law_program_parts cd__law_program_parts ct__law_program_parts : Value} {f__law_drawn : Addr} {od__law_drawn an__law_drawn : Option Addr} {sl__law_drawn : Array (Option Value)} {oc__law_drawn kV__law_drawn dc__law_drawn pm__law_drawn cd__law_drawn ct__law_drawn : Value} {f__law_bent : Addr} {od__law_bent an__law_bent : Option Addr} {sl__law_bent : Array (Option Value)} {oc__law_bent kV__law_bent dc__law_bent pm__law_bent cd__law_bent ct__law_bent : Value} {f__law_is_fine : Addr} {od__law_is_fine an__law_is_fine : Option Addr} {sl__law_is_fine : Array (Option Value)} {oc__law_is_fine kV__law_is_fine dc__law_is_fine pm__law_is_fine cd__law_is_fine ct__law_is_fine : Value} {f__law_right : Addr} {od__law_right an__law_right : Option Addr} {sl__law_right : Array (Option Value)} {oc__law_right kV__law_right dc__law_right pm__law_right cd__law_right ct__law_right : Value} {f__law_dice : Addr} {od__law_dice an__law_dice : Option Addr} {sl__law_dice : Array (Option Value)} {oc__law_dice kV__law_dice dc__law_dice pm__law_dice cd__law_dice ct__law_dice : Value} {f_law : Addr} {od_law an_law : Option Addr} {sl_law : Array (Option Value)} {oc_law kV_law dc_law pm_law cd_law ct_law : Value} {t_MAX_LETTERS : Tok} {t_GAP : Tok} {t_VARIABLE : Tok} {t_MAX_BOUND : Tok} {t__MAX_COUNT : Tok} {t__BINDER : Tok} {t__DOT : Tok} {t__OPEN : Tok} {t__CLOSE : Tok} {t__END : Tok} {t_MAX_NODES : Tok} {C_InvalidProgram : Addr}
    (aC_Program : PySem.W.nsIn K mainGlobals "Program" = some (some (.ref C_Program)))
    (pg_Program : PySem.W.plainGet K C_Program Str.empty = true)
    (hd_Program : PySem.W.hasDictIn K C_Program = true)
    (po_Program : PySem.W.plainOver K C_Program = true)
    (sa_Program : PySem.W.findIn K (.ref C_Program) "__setattr__" = some (some (.builtin "object.__setattr__")))
    (mk_Program : PySem.W.makesIn K C_Program = true)
    (kc_Program : PySem.W.keepIn K (.ref C_Program) = true)
    (n_nodes_Program : PySem.W.findIn K (.ref C_Program) "_nodes" = some none)
    (n_text_Program : PySem.W.findIn K (.ref C_Program) "_text" = some none)
    (n_above_Program : PySem.W.findIn K (.ref C_Program) "_above" = some none)
    (n_parts_Program : PySem.W.findIn K (.ref C_Program) "_parts" = some none)
    (fst_Program : PySem.W.selfFirst K C_Program = true)
    (nfs_Program : PySem.W.notFirst K C_Program (.ref C_Program) = true)
    (tyt_Program : PySem.W.typeIn K (.ref C_Program) = some (.type "type"))
    (od_NoneType_Program : PySem.W.subIn K (.type "NoneType") (.ref C_Program) = some false)
    (nf_NoneType_Program : PySem.W.notFirst K C_Program (.type "NoneType") = true)
    (od_int_Program : PySem.W.subIn K (.type "int") (.ref C_Program) = some false)
    (nf_int_Program : PySem.W.notFirst K C_Program (.type "int") = true)
    (od_str_Program : PySem.W.subIn K (.type "str") (.ref C_Program) = some false)
    (nf_str_Program : PySem.W.notFirst K C_Program (.type "str") = true)
    (od_tuple_Program : PySem.W.subIn K (.type "tuple") (.ref C_Program) = some false)
    (nf_tuple_Program : PySem.W.notFirst K C_Program (.type "tuple") = true)
    (od_list_Program : PySem.W.subIn K (.type "list") (.ref C_Program) = some false)
    (nf_list_Program : PySem.W.notFirst K C_Program (.type "list") = true)
    (od_dict_Program : PySem.W.subIn K (.type "dict") (.ref C_Program) = some false)
    (nf_dict_Program : PySem.W.notFirst K C_Program (.type "dict") = true)
    (ne_Program : PySem.W.findIn K (.ref C_Program) "__ne__" = some (some (.builtin "object.__ne__")))
    (un_Program : PySem.W.subIn K (.ref C_Program) (.type "object") = some true)
    (cl1_Program : PySem.W.findIn K (.ref C_Program) "__class__" = some (some (.builtin "object.__class__")))
    (cl2_Program : PySem.W.specialIn K (.builtin "object.__class__") "__get__" = some (some (.builtin "getset_descriptor.__get__")))
    (cl3_Program : PySem.W.takesIn K (.builtin "object.__class__") = some true)
    (cl4_Program : PySem.W.mroIn K C_Program (.type "object") = some true)
    (a_Program_nodes : PySem.W.findIn K (.ref C_Program) "nodes" = some (some (.ref p_Program_nodes)))
    (g_Program_nodes : PySem.W.specialIn K (.ref p_Program_nodes) "__get__" = some (some (.builtin "property.__get__")))
    (t_Program_nodes : PySem.W.takesIn K (.ref p_Program_nodes) = some true)
    (r_Program_nodes : PySem.W.recIn K p_Program_nodes "property" = some (.ref f_Program_nodes :: rs_Program_nodes))
    (l_Program_nodes : K.lookup f_Program_nodes = some ⟨oc_Program_nodes, od_Program_nodes, .func (PySem.W.fnOf "nodes" "Program.nodes" (defArgs s_Program_nodes) (defBody s_Program_nodes) (defScope s_Program_nodes) .none kV_Program_nodes dc_Program_nodes pm_Program_nodes an_Program_nodes cd_Program_nodes ct_Program_nodes), sl_Program_nodes⟩)
    (c_Program_nodes : PySem.W.codeIn K cd_Program_nodes "Program.nodes" = true)
    (k_Program_nodes : PySem.W.keepIn K (.ref f_Program_nodes) = true)
    (a_bounds_of : PySem.W.nsIn K mainGlobals "bounds_of" = some (some (.ref f_bounds_of)))
    (l_bounds_of : K.lookup f_bounds_of = some ⟨oc_bounds_of, od_bounds_of, .func (PySem.W.fnOf "bounds_of" "bounds_of" (defArgs s_bounds_of) (defBody s_bounds_of) (defScope s_bounds_of) .none kV_bounds_of dc_bounds_of pm_bounds_of an_bounds_of cd_bounds_of ct_bounds_of), sl_bounds_of⟩)
    (c_bounds_of : PySem.W.codeIn K cd_bounds_of "bounds_of" = true)
    (k_bounds_of : PySem.W.keepIn K (.ref f_bounds_of) = true)
    (a_text_of_nodes : PySem.W.nsIn K mainGlobals "text_of_nodes" = some (some (.ref f_text_of_nodes)))
    (l_text_of_nodes : K.lookup f_text_of_nodes = some ⟨oc_text_of_nodes, od_text_of_nodes, .func (PySem.W.fnOf "text_of_nodes" "text_of_nodes" (defArgs s_text_of_nodes) (defBody s_text_of_nodes) (defScope s_text_of_nodes) .none kV_text_of_nodes dc_text_of_nodes pm_text_of_nodes an_text_of_nodes cd_text_of_nodes ct_text_of_nodes), sl_text_of_nodes⟩)
    (c_text_of_nodes : PySem.W.codeIn K cd_text_of_nodes "text_of_nodes" = true)
    (k_text_of_nodes : PySem.W.keepIn K (.ref f_text_of_nodes) = true)
    (a_places_above : PySem.W.nsIn K mainGlobals "places_above" = some (some (.ref f_places_above)))
    (l_places_above : K.lookup f_places_above = some ⟨oc_places_above, od_places_above, .func (PySem.W.fnOf "places_above" "places_above" (defArgs s_places_above) (defBody s_places_above) (defScope s_places_above) .none kV_places_above dc_places_above pm_places_above an_places_above cd_places_above ct_places_above), sl_places_above⟩)
    (c_places_above : PySem.W.codeIn K cd_places_above "places_above" = true)
    (k_places_above : PySem.W.keepIn K (.ref f_places_above) = true)
    (a_gaps_of : PySem.W.nsIn K mainGlobals "gaps_of" = some (some (.ref f_gaps_of)))
    (l_gaps_of : K.lookup f_gaps_of = some ⟨oc_gaps_of, od_gaps_of, .func (PySem.W.fnOf "gaps_of" "gaps_of" (defArgs s_gaps_of) (defBody s_gaps_of) (defScope s_gaps_of) .none kV_gaps_of dc_gaps_of pm_gaps_of an_gaps_of cd_gaps_of ct_gaps_of), sl_gaps_of⟩)
    (c_gaps_of : PySem.W.codeIn K cd_gaps_of "gaps_of" = true)
    (k_gaps_of : PySem.W.keepIn K (.ref f_gaps_of) = true)
    (a_is_variable : PySem.W.nsIn K mainGlobals "is_variable" = some (some (.ref f_is_variable)))
    (l_is_variable : K.lookup f_is_variable = some ⟨oc_is_variable, od_is_variable, .func (PySem.W.fnOf "is_variable" "is_variable" (defArgs s_is_variable) (defBody s_is_variable) (defScope s_is_variable) .none kV_is_variable dc_is_variable pm_is_variable an_is_variable cd_is_variable ct_is_variable), sl_is_variable⟩)
    (c_is_variable : PySem.W.codeIn K cd_is_variable "is_variable" = true)
    (k_is_variable : PySem.W.keepIn K (.ref f_is_variable) = true)
    (a_is_word : PySem.W.nsIn K mainGlobals "is_word" = some (some (.ref f_is_word)))
    (l_is_word : K.lookup f_is_word = some ⟨oc_is_word, od_is_word, .func (PySem.W.fnOf "is_word" "is_word" (defArgs s_is_word) (defBody s_is_word) (defScope s_is_word) .none kV_is_word dc_is_word pm_is_word an_is_word cd_is_word ct_is_word), sl_is_word⟩)
    (c_is_word : PySem.W.codeIn K cd_is_word "is_word" = true)
    (k_is_word : PySem.W.keepIn K (.ref f_is_word) = true)
    (a_is_integer : PySem.W.nsIn K mainGlobals "is_integer" = some (some (.ref f_is_integer)))
    (l_is_integer : K.lookup f_is_integer = some ⟨oc_is_integer, od_is_integer, .func (PySem.W.fnOf "is_integer" "is_integer" (defArgs s_is_integer) (defBody s_is_integer) (defScope s_is_integer) .none kV_is_integer dc_is_integer pm_is_integer an_is_integer cd_is_integer ct_is_integer), sl_is_integer⟩)
    (c_is_integer : PySem.W.codeIn K cd_is_integer "is_integer" = true)
    (k_is_integer : PySem.W.keepIn K (.ref f_is_integer) = true)
    (a__is_count : PySem.W.nsIn K mainGlobals "_is_count" = some (some (.ref f__is_count)))
    (l__is_count : K.lookup f__is_count = some ⟨oc__is_count, od__is_count, .func (PySem.W.fnOf "_is_count" "_is_count" (defArgs s__is_count) (defBody s__is_count) (defScope s__is_count) .none kV__is_count dc__is_count pm__is_count an__is_count cd__is_count ct__is_count), sl__is_count⟩)
    (c__is_count : PySem.W.codeIn K cd__is_count "_is_count" = true)
    (k__is_count : PySem.W.keepIn K (.ref f__is_count) = true)
    (a__is_node : PySem.W.nsIn K mainGlobals "_is_node" = some (some (.ref f__is_node)))
    (l__is_node : K.lookup f__is_node = some ⟨oc__is_node, od__is_node, .func (PySem.W.fnOf "_is_node" "_is_node" (defArgs s__is_node) (defBody s__is_node) (defScope s__is_node) .none kV__is_node dc__is_node pm__is_node an__is_node cd__is_node ct__is_node), sl__is_node⟩)
    (c__is_node : PySem.W.codeIn K cd__is_node "_is_node" = true)
    (k__is_node : PySem.W.keepIn K (.ref f__is_node) = true)
    (a_level_of : PySem.W.nsIn K mainGlobals "level_of" = some (some (.ref f_level_of)))
    (l_level_of : K.lookup f_level_of = some ⟨oc_level_of, od_level_of, .func (PySem.W.fnOf "level_of" "level_of" (defArgs s_level_of) (defBody s_level_of) (defScope s_level_of) .none kV_level_of dc_level_of pm_level_of an_level_of cd_level_of ct_level_of), sl_level_of⟩)
    (c_level_of : PySem.W.codeIn K cd_level_of "level_of" = true)
    (k_level_of : PySem.W.keepIn K (.ref f_level_of) = true)
    (a_are_nodes : PySem.W.nsIn K mainGlobals "are_nodes" = some (some (.ref f_are_nodes)))
    (l_are_nodes : K.lookup f_are_nodes = some ⟨oc_are_nodes, od_are_nodes, .func (PySem.W.fnOf "are_nodes" "are_nodes" (defArgs s_are_nodes) (defBody s_are_nodes) (defScope s_are_nodes) .none kV_are_nodes dc_are_nodes pm_are_nodes an_are_nodes cd_are_nodes ct_are_nodes), sl_are_nodes⟩)
    (c_are_nodes : PySem.W.codeIn K cd_are_nodes "are_nodes" = true)
    (k_are_nodes : PySem.W.keepIn K (.ref f_are_nodes) = true)
    (a_Program___init__ : PySem.W.findIn K (.ref C_Program) "__init__" = some (some (.ref f_Program___init__)))
    (i_Program___init__ : PySem.W.isFn K (.ref f_Program___init__) = true)
    (l_Program___init__ : K.lookup f_Program___init__ = some ⟨oc_Program___init__, od_Program___init__, .func (PySem.W.fnOf "__init__" "Program.__init__" (defArgs s_Program___init__) (defBody s_Program___init__) (defScope s_Program___init__) .none kV_Program___init__ dc_Program___init__ pm_Program___init__ an_Program___init__ cd_Program___init__ ct_Program___init__), sl_Program___init__⟩)
    (c_Program___init__ : PySem.W.codeIn K cd_Program___init__ "Program.__init__" = true)
    (k_Program___init__ : PySem.W.keepIn K (.ref f_Program___init__) = true)
    (a__law_is_taken : PySem.W.nsIn K mainGlobals "_law_is_taken" = some (some (.ref f__law_is_taken)))
    (l__law_is_taken : K.lookup f__law_is_taken = some ⟨oc__law_is_taken, od__law_is_taken, .func (PySem.W.fnOf "_law_is_taken" "_law_is_taken" (defArgs s__law_is_taken) (defBody s__law_is_taken) (defScope s__law_is_taken) .none kV__law_is_taken dc__law_is_taken pm__law_is_taken an__law_is_taken cd__law_is_taken ct__law_is_taken), sl__law_is_taken⟩)
    (c__law_is_taken : PySem.W.codeIn K cd__law_is_taken "_law_is_taken" = true)
    (k__law_is_taken : PySem.W.keepIn K (.ref f__law_is_taken) = true)
    (a__law_program_nodes : PySem.W.nsIn K mainGlobals "_law_program_nodes" = some (some (.ref f__law_program_nodes)))
    (l__law_program_nodes : K.lookup f__law_program_nodes = some ⟨oc__law_program_nodes, od__law_program_nodes, .func (PySem.W.fnOf "_law_program_nodes" "_law_program_nodes" (defArgs s__law_program_nodes) (defBody s__law_program_nodes) (defScope s__law_program_nodes) .none kV__law_program_nodes dc__law_program_nodes pm__law_program_nodes an__law_program_nodes cd__law_program_nodes ct__law_program_nodes), sl__law_program_nodes⟩)
    (c__law_program_nodes : PySem.W.codeIn K cd__law_program_nodes "_law_program_nodes" = true)
    (k__law_program_nodes : PySem.W.keepIn K (.ref f__law_program_nodes) = true)
    (a__law_roll : PySem.W.nsIn K mainGlobals "_law_roll" = some (some (.ref f__law_roll)))
    (l__law_roll : K.lookup f__law_roll = some ⟨oc__law_roll, od__law_roll, .func (PySem.W.fnOf "_law_roll" "_law_roll" (defArgs s__law_roll) (defBody s__law_roll) (defScope s__law_roll) .none kV__law_roll dc__law_roll pm__law_roll an__law_roll cd__law_roll ct__law_roll), sl__law_roll⟩)
    (c__law_roll : PySem.W.codeIn K cd__law_roll "_law_roll" = true)
    (k__law_roll : PySem.W.keepIn K (.ref f__law_roll) = true)
    (a__law_pick : PySem.W.nsIn K mainGlobals "_law_pick" = some (some (.ref f__law_pick)))
    (l__law_pick : K.lookup f__law_pick = some ⟨oc__law_pick, od__law_pick, .func (PySem.W.fnOf "_law_pick" "_law_pick" (defArgs s__law_pick) (defBody s__law_pick) (defScope s__law_pick) .none kV__law_pick dc__law_pick pm__law_pick an__law_pick cd__law_pick ct__law_pick), sl__law_pick⟩)
    (c__law_pick : PySem.W.codeIn K cd__law_pick "_law_pick" = true)
    (k__law_pick : PySem.W.keepIn K (.ref f__law_pick) = true)
    (a__law_program_parts : PySem.W.nsIn K mainGlobals "_law_program_parts" = some (some (.ref f__law_program_parts)))
    (l__law_program_parts : K.lookup f__law_program_parts = some ⟨oc__law_program_parts, od__law_program_parts, .func (PySem.W.fnOf "_law_program_parts" "_law_program_parts" (defArgs s__law_program_parts) (defBody s__law_program_parts) (defScope s__law_program_parts) .none kV__law_program_parts dc__law_program_parts pm__law_program_parts an__law_program_parts cd__law_program_parts ct__law_program_parts), sl__law_program_parts⟩)
    (c__law_program_parts : PySem.W.codeIn K cd__law_program_parts "_law_program_parts" = true)
    (k__law_program_parts : PySem.W.keepIn K (.ref f__law_program_parts) = true)
    (a__law_drawn : PySem.W.nsIn K mainGlobals "_law_drawn" = some (some (.ref f__law_drawn)))
    (l__law_drawn : K.lookup f__law_drawn = some ⟨oc__law_drawn, od__law_drawn, .func (PySem.W.fnOf "_law_drawn" "_law_drawn" (defArgs s__law_drawn) (defBody s__law_drawn) (defScope s__law_drawn) .none kV__law_drawn dc__law_drawn pm__law_drawn an__law_drawn cd__law_drawn ct__law_drawn), sl__law_drawn⟩)
    (c__law_drawn : PySem.W.codeIn K cd__law_drawn "_law_drawn" = true)
    (k__law_drawn : PySem.W.keepIn K (.ref f__law_drawn) = true)
    (a__law_bent : PySem.W.nsIn K mainGlobals "_law_bent" = some (some (.ref f__law_bent)))
    (l__law_bent : K.lookup f__law_bent = some ⟨oc__law_bent, od__law_bent, .func (PySem.W.fnOf "_law_bent" "_law_bent" (defArgs s__law_bent) (defBody s__law_bent) (defScope s__law_bent) .none kV__law_bent dc__law_bent pm__law_bent an__law_bent cd__law_bent ct__law_bent), sl__law_bent⟩)
    (c__law_bent : PySem.W.codeIn K cd__law_bent "_law_bent" = true)
    (k__law_bent : PySem.W.keepIn K (.ref f__law_bent) = true)
    (a__law_is_fine : PySem.W.nsIn K mainGlobals "_law_is_fine" = some (some (.ref f__law_is_fine)))
    (l__law_is_fine : K.lookup f__law_is_fine = some ⟨oc__law_is_fine, od__law_is_fine, .func (PySem.W.fnOf "_law_is_fine" "_law_is_fine" (defArgs s__law_is_fine) (defBody s__law_is_fine) (defScope s__law_is_fine) .none kV__law_is_fine dc__law_is_fine pm__law_is_fine an__law_is_fine cd__law_is_fine ct__law_is_fine), sl__law_is_fine⟩)
    (c__law_is_fine : PySem.W.codeIn K cd__law_is_fine "_law_is_fine" = true)
    (k__law_is_fine : PySem.W.keepIn K (.ref f__law_is_fine) = true)
    (a__law_right : PySem.W.nsIn K mainGlobals "_law_right" = some (some (.ref f__law_right)))
    (l__law_right : K.lookup f__law_right = some ⟨oc__law_right, od__law_right, .func (PySem.W.fnOf "_law_right" "_law_right" (defArgs s__law_right) (defBody s__law_right) (defScope s__law_right) .none kV__law_right dc__law_right pm__law_right an__law_right cd__law_right ct__law_right), sl__law_right⟩)
    (c__law_right : PySem.W.codeIn K cd__law_right "_law_right" = true)
    (k__law_right : PySem.W.keepIn K (.ref f__law_right) = true)
    (a__law_dice : PySem.W.nsIn K mainGlobals "_law_dice" = some (some (.ref f__law_dice)))
    (l__law_dice : K.lookup f__law_dice = some ⟨oc__law_dice, od__law_dice, .func (PySem.W.fnOf "_law_dice" "_law_dice" (defArgs s__law_dice) (defBody s__law_dice) (defScope s__law_dice) .none kV__law_dice dc__law_dice pm__law_dice an__law_dice cd__law_dice ct__law_dice), sl__law_dice⟩)
    (c__law_dice : PySem.W.codeIn K cd__law_dice "_law_dice" = true)
    (k__law_dice : PySem.W.keepIn K (.ref f__law_dice) = true)
    (a_law : PySem.W.nsIn K mainGlobals "law" = some (some (.ref f_law)))
    (l_law : K.lookup f_law = some ⟨oc_law, od_law, .func (PySem.W.fnOf "law" "law" (defArgs s_law) (defBody s_law) (defScope s_law) .none kV_law dc_law pm_law an_law cd_law ct_law), sl_law⟩)
    (c_law : PySem.W.codeIn K cd_law "law" = true)
    (k_law : PySem.W.keepIn K (.ref f_law) = true)
    (z_RuntimeError : PySem.W.nsIn K mainGlobals "RuntimeError" = some none)
    (z_ValueError : PySem.W.nsIn K mainGlobals "ValueError" = some none)
    (z_abs : PySem.W.nsIn K mainGlobals "abs" = some none)
    (z_all : PySem.W.nsIn K mainGlobals "all" = some none)
    (z_bool : PySem.W.nsIn K mainGlobals "bool" = some none)
    (z_classmethod : PySem.W.nsIn K mainGlobals "classmethod" = some none)
    (z_dict : PySem.W.nsIn K mainGlobals "dict" = some none)
    (z_enumerate : PySem.W.nsIn K mainGlobals "enumerate" = some none)
    (z_int : PySem.W.nsIn K mainGlobals "int" = some none)
    (z_isinstance : PySem.W.nsIn K mainGlobals "isinstance" = some none)
    (z_iter : PySem.W.nsIn K mainGlobals "iter" = some none)
    (z_len : PySem.W.nsIn K mainGlobals "len" = some none)
    (z_list : PySem.W.nsIn K mainGlobals "list" = some none)
    (z_max : PySem.W.nsIn K mainGlobals "max" = some none)
    (z_min : PySem.W.nsIn K mainGlobals "min" = some none)
    (z_property : PySem.W.nsIn K mainGlobals "property" = some none)
    (z_range : PySem.W.nsIn K mainGlobals "range" = some none)
    (z_set : PySem.W.nsIn K mainGlobals "set" = some none)
    (z_sorted : PySem.W.nsIn K mainGlobals "sorted" = some none)
    (z_str : PySem.W.nsIn K mainGlobals "str" = some none)
    (z_sum : PySem.W.nsIn K mainGlobals "sum" = some none)
    (z_tuple : PySem.W.nsIn K mainGlobals "tuple" = some none)
    (g_MAX_LETTERS : PySem.W.nsIn K mainGlobals "MAX_LETTERS" = some (some (.int 8 t_MAX_LETTERS)))
    (g_GAP : PySem.W.nsIn K mainGlobals "GAP" = some (some (.str "?" t_GAP)))
    (g_VARIABLE : PySem.W.nsIn K mainGlobals "VARIABLE" = some (some (.str "x" t_VARIABLE)))
    (g_MAX_BOUND : PySem.W.nsIn K mainGlobals "MAX_BOUND" = some (some (.int 100 t_MAX_BOUND)))
    (g__MAX_COUNT : PySem.W.nsIn K mainGlobals "_MAX_COUNT" = some (some (.int 15 t__MAX_COUNT)))
    (g__BINDER : PySem.W.nsIn K mainGlobals "_BINDER" = some (some (.str "\\" t__BINDER)))
    (g__DOT : PySem.W.nsIn K mainGlobals "_DOT" = some (some (.str "." t__DOT)))
    (g__OPEN : PySem.W.nsIn K mainGlobals "_OPEN" = some (some (.str "(" t__OPEN)))
    (g__CLOSE : PySem.W.nsIn K mainGlobals "_CLOSE" = some (some (.str ")" t__CLOSE)))
    (g__END : PySem.W.nsIn K mainGlobals "_END" = some (some (.str "" t__END)))
    (g_MAX_NODES : PySem.W.nsIn K mainGlobals "MAX_NODES" = some (some (.int 40 t_MAX_NODES)))
    (ea_InvalidProgram : PySem.W.nsIn K mainGlobals "InvalidProgram" = some (some (.ref C_InvalidProgram)))
    (ex_InvalidProgram : PySem.W.excIn K C_InvalidProgram [.type "ValueError", .type "Exception", .type "BaseException", .type "object"] "ValueError.__new__" = true)
    (ek_InvalidProgram : PySem.W.keepIn K (.ref C_InvalidProgram) = true)
    (eb_InvalidProgram : PySem.W.subIn K (.ref C_InvalidProgram) (.type "BaseException") = some true)
    (et_InvalidProgram : PySem.W.typeIn K (.ref C_InvalidProgram) = some (.type "type")) :
    ∃ fd : FuncData, (∀ (s : Shared) (v : Value), BindsTo s fd ⟨[v], []⟩ [("_law_script", v)]) ∧ ∀ base : Heap, K.In base → base.Ns mainGlobals mg → FnOkG l.prog w K mg base CX0 13 fa fd ["_law_script"] (sp_law K) := by
  have e := hfa.symm.trans (PySem.W.mg_of X G a_law)
  cases e
  have k_Program : Cls K C_Program := ⟨pg_Program, hd_Program, po_Program, sa_Program⟩
  have x_Program : XProgram K C_Program := ⟨n_nodes_Program, n_text_Program, n_above_Program, n_parts_Program, fst_Program, nfs_Program, (odd_of hd_Program tyt_Program od_NoneType_Program), nf_NoneType_Program, (odd_of hd_Program tyt_Program od_int_Program), nf_int_Program, (odd_of hd_Program tyt_Program od_str_Program), nf_str_Program, (odd_of hd_Program tyt_Program od_tuple_Program), nf_tuple_Program, (odd_of hd_Program tyt_Program od_list_Program), nf_list_Program, (odd_of hd_Program tyt_Program od_dict_Program), nf_dict_Program, ne_Program, un_Program, cl1_Program, cl2_Program, cl3_Program, cl4_Program⟩
  have T : Txt K mg C_Program := ⟨PySem.W.mg_of X G aC_Program, k_Program, x_Program, PySem.W.mg_none_of X G z_RuntimeError, PySem.W.mg_none_of X G z_ValueError, PySem.W.mg_none_of X G z_abs, PySem.W.mg_none_of X G z_all, PySem.W.mg_none_of X G z_bool, PySem.W.mg_none_of X G z_classmethod, PySem.W.mg_none_of X G z_dict, PySem.W.mg_none_of X G z_enumerate, PySem.W.mg_none_of X G z_int, PySem.W.mg_none_of X G z_isinstance, PySem.W.mg_none_of X G z_iter, PySem.W.mg_none_of X G z_len, PySem.W.mg_none_of X G z_list, PySem.W.mg_none_of X G z_max, PySem.W.mg_none_of X G z_min, PySem.W.mg_none_of X G z_property, PySem.W.mg_none_of X G z_range, PySem.W.mg_none_of X G z_set, PySem.W.mg_none_of X G z_sorted, PySem.W.mg_none_of X G z_str, PySem.W.mg_none_of X G z_sum, PySem.W.mg_none_of X G z_tuple, ⟨_, PySem.W.mg_of X G g_MAX_LETTERS, ⟨_, rfl⟩⟩, ⟨_, PySem.W.mg_of X G g_GAP, ⟨_, rfl⟩⟩, ⟨_, PySem.W.mg_of X G g_VARIABLE, ⟨_, rfl⟩⟩, ⟨_, PySem.W.mg_of X G g_MAX_BOUND, ⟨_, rfl⟩⟩, ⟨_, PySem.W.mg_of X G g__MAX_COUNT, ⟨_, rfl⟩⟩, ⟨_, PySem.W.mg_of X G g__BINDER, ⟨_, rfl⟩⟩, ⟨_, PySem.W.mg_of X G g__DOT, ⟨_, rfl⟩⟩, ⟨_, PySem.W.mg_of X G g__OPEN, ⟨_, rfl⟩⟩, ⟨_, PySem.W.mg_of X G g__CLOSE, ⟨_, rfl⟩⟩, ⟨_, PySem.W.mg_of X G g__END, ⟨_, rfl⟩⟩, ⟨_, PySem.W.mg_of X G g_MAX_NODES, ⟨_, rfl⟩⟩⟩
  have e_InvalidProgram : ErrT K mg "InvalidProgram" C_InvalidProgram := ⟨ex_InvalidProgram, PySem.W.mg_of X G ea_InvalidProgram, ek_InvalidProgram, eb_InvalidProgram, et_InvalidProgram⟩
  refine ⟨PySem.W.fnOf "law" "law" (defArgs s_law) (defBody s_law) (defScope s_law) .none kV_law dc_law pm_law an_law cd_law ct_law, fun s v => .of_eq rfl, fun base _ _ => ?_⟩
  have F_Program_nodes := fun_mk (st := s_Program_nodes) l_Program_nodes c_Program_nodes k_Program_nodes
  have B_Program_nodes := F_Program_nodes.binds (ps := ["self"]) fun _ _ _ _ _ _ us hl => match us, hl with | [_], _ => rfl
  have D_Program_nodes : PrpC l.prog w K mg base C_Program "nodes" 1 ["self"] (getSp C_Program "_nodes") := ⟨_, _, _, F_Program_nodes.getter sc_Program_nodes k_Program x_Program.n_nodes, ⟨a_Program_nodes, g_Program_nodes, t_Program_nodes, _, r_Program_nodes⟩, B_Program_nodes⟩
  have F_bounds_of := fun_mk (st := s_bounds_of) l_bounds_of c_bounds_of k_bounds_of
  have B_bounds_of := F_bounds_of.binds (ps := ["nodes"]) fun _ _ _ _ _ _ us hl => match us, hl with | [_], _ => rfl
  have D_bounds_of : CalN l.prog w K mg base "bounds_of" 1 ["nodes"] (sp_bounds_of K) := ⟨_, _, ok_bounds_of (P := l.prog) (w := w) (base := base) T F_bounds_of, PySem.W.mg_of X G a_bounds_of, k_bounds_of, B_bounds_of⟩
  have F_text_of_nodes := fun_mk (st := s_text_of_nodes) l_text_of_nodes c_text_of_nodes k_text_of_nodes
  have B_text_of_nodes := F_text_of_nodes.binds (ps := ["nodes"]) fun _ _ _ _ _ _ us hl => match us, hl with | [_], _ => rfl
  have D_text_of_nodes : CalN l.prog w K mg base "text_of_nodes" 2 ["nodes"] (sp_text_of_nodes K) := ⟨_, _, ok_text_of_nodes (P := l.prog) (w := w) (base := base) T D_bounds_of F_text_of_nodes, PySem.W.mg_of X G a_text_of_nodes, k_text_of_nodes, B_text_of_nodes⟩
  have F_places_above := fun_mk (st := s_places_above) l_places_above c_places_above k_places_above
  have B_places_above := F_places_above.binds (ps := ["nodes"]) fun _ _ _ _ _ _ us hl => match us, hl with | [_], _ => rfl
  have D_places_above : CalN l.prog w K mg base "places_above" 1 ["nodes"] (sp_places_above K) := ⟨_, _, ok_places_above (P := l.prog) (w := w) (base := base) T F_places_above, PySem.W.mg_of X G a_places_above, k_places_above, B_places_above⟩
  have F_gaps_of := fun_mk (st := s_gaps_of) l_gaps_of c_gaps_of k_gaps_of
  have B_gaps_of := F_gaps_of.binds (ps := ["nodes"]) fun _ _ _ _ _ _ us hl => match us, hl with | [_], _ => rfl
  have D_gaps_of : CalN l.prog w K mg base "gaps_of" 1 ["nodes"] (sp_gaps_of K) := ⟨_, _, ok_gaps_of (P := l.prog) (w := w) (base := base) T F_gaps_of, PySem.W.mg_of X G a_gaps_of, k_gaps_of, B_gaps_of⟩
  have F_is_variable := fun_mk (st := s_is_variable) l_is_variable c_is_variable k_is_variable
  have B_is_variable := F_is_variable.binds (ps := ["value"]) fun _ _ _ _ _ _ us hl => match us, hl with | [_], _ => rfl
  have D_is_variable : CalN l.prog w K mg base "is_variable" 1 ["value"] (sp_is_variable K) := ⟨_, _, ok_is_variable (P := l.prog) (w := w) (base := base) T F_is_variable, PySem.W.mg_of X G a_is_variable, k_is_variable, B_is_variable⟩
  have F_is_word := fun_mk (st := s_is_word) l_is_word c_is_word k_is_word
  have B_is_word := F_is_word.binds (ps := ["value"]) fun _ _ _ _ _ _ us hl => match us, hl with | [_], _ => rfl
  have D_is_word : CalN l.prog w K mg base "is_word" 1 ["value"] (sp_is_word K) := ⟨_, _, ok_is_word (P := l.prog) (w := w) (base := base) T F_is_word, PySem.W.mg_of X G a_is_word, k_is_word, B_is_word⟩
  have F_is_integer := fun_mk (st := s_is_integer) l_is_integer c_is_integer k_is_integer
  have B_is_integer := F_is_integer.binds (ps := ["value"]) fun _ _ _ _ _ _ us hl => match us, hl with | [_], _ => rfl
  have D_is_integer : CalN l.prog w K mg base "is_integer" 1 ["value"] (sp_is_integer K) := ⟨_, _, ok_is_integer (P := l.prog) (w := w) (base := base) T F_is_integer, PySem.W.mg_of X G a_is_integer, k_is_integer, B_is_integer⟩
  have F__is_count := fun_mk (st := s__is_count) l__is_count c__is_count k__is_count
  have B__is_count := F__is_count.binds (ps := ["value"]) fun _ _ _ _ _ _ us hl => match us, hl with | [_], _ => rfl
  have D__is_count : CalN l.prog w K mg base "_is_count" 2 ["value"] (sp__is_count K) := ⟨_, _, ok__is_count (P := l.prog) (w := w) (base := base) T D_is_integer F__is_count, PySem.W.mg_of X G a__is_count, k__is_count, B__is_count⟩
  have F__is_node := fun_mk (st := s__is_node) l__is_node c__is_node k__is_node
  have B__is_node := F__is_node.binds (ps := ["value"]) fun _ _ _ _ _ _ us hl => match us, hl with | [_], _ => rfl
  have D__is_node : CalN l.prog w K mg base "_is_node" 3 ["value"] (sp__is_node K) := ⟨_, _, ok__is_node (P := l.prog) (w := w) (base := base) T D_is_word D_is_variable D__is_count F__is_node, PySem.W.mg_of X G a__is_node, k__is_node, B__is_node⟩
  have F_level_of := fun_mk (st := s_level_of) l_level_of c_level_of k_level_of
  have B_level_of := F_level_of.binds (ps := ["variable"]) fun _ _ _ _ _ _ us hl => match us, hl with | [_], _ => rfl
  have D_level_of : CalN l.prog w K mg base "level_of" 1 ["variable"] (sp_level_of K) := ⟨_, _, ok_level_of (P := l.prog) (w := w) (base := base) T F_level_of, PySem.W.mg_of X G a_level_of, k_level_of, B_level_of⟩
  have F_are_nodes := fun_mk (st := s_are_nodes) l_are_nodes c_are_nodes k_are_nodes
  have B_are_nodes := F_are_nodes.binds (ps := ["nodes", "bound"]) fun _ _ _ _ _ _ us hl => match us, hl with | [_, _], _ => rfl
  have D_are_nodes : CalN l.prog w K mg base "are_nodes" 4 ["nodes", "bound"] (sp_are_nodes K) := ⟨_, _, ok_are_nodes (P := l.prog) (w := w) (base := base) T D_is_variable D__is_node D_level_of F_are_nodes, PySem.W.mg_of X G a_are_nodes, k_are_nodes, B_are_nodes⟩
  have F_Program___init__ := fun_mk (st := s_Program___init__) l_Program___init__ c_Program___init__ k_Program___init__
  have B_Program___init__ := F_Program___init__.binds (ps := ["self", "nodes"]) fun _ _ _ _ _ _ us hl => match us, hl with | [_, _], _ => rfl
  have D_initX : MakX l.prog w K mg base C_Program 5 ["self", "nodes"] (sp_Program_initX K C_Program C_InvalidProgram) := ⟨_, _, ok_Program_initX (P := l.prog) (w := w) (base := base) T e_InvalidProgram D_text_of_nodes D_places_above D_gaps_of D_are_nodes D_is_word F_Program___init__, ⟨mk_Program, a_Program___init__, i_Program___init__, kc_Program⟩, B_Program___init__⟩
  have F__law_is_taken := fun_mk (st := s__law_is_taken) l__law_is_taken c__law_is_taken k__law_is_taken
  have B__law_is_taken := F__law_is_taken.binds (ps := ["_law_value"]) fun _ _ _ _ _ _ us hl => match us, hl with | [_], _ => rfl
  have D__law_is_taken : Cal l.prog w K mg base "_law_is_taken" 7 ["_law_value"] (sp__law_is_taken K) := ⟨_, _, ok__law_is_taken (P := l.prog) (w := w) (base := base) T e_InvalidProgram D_Program_nodes D_initX F__law_is_taken, PySem.W.mg_of X G a__law_is_taken, k__law_is_taken, B__law_is_taken⟩
  have F__law_program_nodes := fun_mk (st := s__law_program_nodes) l__law_program_nodes c__law_program_nodes k__law_program_nodes
  have B__law_program_nodes := F__law_program_nodes.binds (ps := ["_law_program"]) fun _ _ _ _ _ _ us hl => match us, hl with | [_], _ => rfl
  have D__law_program_nodes : Cal l.prog w K mg base "_law_program_nodes" 6 ["_law_program"] (sp__law_program_nodes K) := ⟨_, _, ok__law_program_nodes (P := l.prog) (w := w) (base := base) T F__law_program_nodes (PySem.W.mg_of X G a__law_program_nodes) B__law_program_nodes 5, PySem.W.mg_of X G a__law_program_nodes, k__law_program_nodes, B__law_program_nodes⟩
  have F__law_roll := fun_mk (st := s__law_roll) l__law_roll c__law_roll k__law_roll
  have B__law_roll := F__law_roll.binds (ps := ["_law_dice_here", "_law_total"]) fun _ _ _ _ _ _ us hl => match us, hl with | [_, _], _ => rfl
  have D__law_roll : Cal l.prog w K mg base "_law_roll" 1 ["_law_dice_here", "_law_total"] (sp__law_roll K) := ⟨_, _, ok__law_roll (P := l.prog) (w := w) (base := base) T F__law_roll, PySem.W.mg_of X G a__law_roll, k__law_roll, B__law_roll⟩
  have F__law_pick := fun_mk (st := s__law_pick) l__law_pick c__law_pick k__law_pick
  have B__law_pick := F__law_pick.binds (ps := ["_law_dice_here", "_law_items"]) fun _ _ _ _ _ _ us hl => match us, hl with | [_, _], _ => rfl
  have D__law_pick : Cal l.prog w K mg base "_law_pick" 2 ["_law_dice_here", "_law_items"] (sp__law_pick K) := ⟨_, _, ok__law_pick (P := l.prog) (w := w) (base := base) T D__law_roll F__law_pick, PySem.W.mg_of X G a__law_pick, k__law_pick, B__law_pick⟩
  have F__law_program_parts := fun_mk (st := s__law_program_parts) l__law_program_parts c__law_program_parts k__law_program_parts
  have B__law_program_parts := F__law_program_parts.binds (ps := ["_law_program"]) fun _ _ _ _ _ _ us hl => match us, hl with | [_], _ => rfl
  have D__law_program_parts : Cal l.prog w K mg base "_law_program_parts" 6 ["_law_program"] (sp__law_program_parts K) := ⟨_, _, ok__law_program_parts (P := l.prog) (w := w) (base := base) T F__law_program_parts (PySem.W.mg_of X G a__law_program_parts) B__law_program_parts 5, PySem.W.mg_of X G a__law_program_parts, k__law_program_parts, B__law_program_parts⟩
  have F__law_drawn := fun_mk (st := s__law_drawn) l__law_drawn c__law_drawn k__law_drawn
  have B__law_drawn := F__law_drawn.binds (ps := ["_law_dice_here", "_law_bound", "_law_most"]) fun _ _ _ _ _ _ us hl => match us, hl with | [_, _, _], _ => rfl
  have D__law_drawn : Cal l.prog w K mg base "_law_drawn" 11 ["_law_dice_here", "_law_bound", "_law_most"] (sp__law_drawn K) := ⟨_, _, ok__law_drawn (P := l.prog) (w := w) (base := base) T D__law_pick D__law_roll D__law_program_parts F__law_drawn (PySem.W.mg_of X G a__law_drawn) B__law_drawn 4, PySem.W.mg_of X G a__law_drawn, k__law_drawn, B__law_drawn⟩
  have F__law_bent := fun_mk (st := s__law_bent) l__law_bent c__law_bent k__law_bent
  have B__law_bent := F__law_bent.binds (ps := ["_law_dice_here", "_law_nodes"]) fun _ _ _ _ _ _ us hl => match us, hl with | [_, _], _ => rfl
  have D__law_bent : Cal l.prog w K mg base "_law_bent" 3 ["_law_dice_here", "_law_nodes"] (sp__law_bent K) := ⟨_, _, ok__law_bent (P := l.prog) (w := w) (base := base) T D__law_roll D__law_pick F__law_bent, PySem.W.mg_of X G a__law_bent, k__law_bent, B__law_bent⟩
  have F__law_is_fine := fun_mk (st := s__law_is_fine) l__law_is_fine c__law_is_fine k__law_is_fine
  have B__law_is_fine := F__law_is_fine.binds (ps := ["_law_value"]) fun _ _ _ _ _ _ us hl => match us, hl with | [_], _ => rfl
  have D__law_is_fine : Cal l.prog w K mg base "_law_is_fine" 1 ["_law_value"] (sp__law_is_fine K) := ⟨_, _, ok__law_is_fine (P := l.prog) (w := w) (base := base) T F__law_is_fine, PySem.W.mg_of X G a__law_is_fine, k__law_is_fine, B__law_is_fine⟩
  have F__law_right := fun_mk (st := s__law_right) l__law_right c__law_right k__law_right
  have B__law_right := F__law_right.binds (ps := ["_law_dice_here"]) fun _ _ _ _ _ _ us hl => match us, hl with | [_], _ => rfl
  have D__law_right : Cal l.prog w K mg base "_law_right" 12 ["_law_dice_here"] (sp__law_right K) := ⟨_, _, ok__law_right (P := l.prog) (w := w) (base := base) T D__law_program_nodes D__law_pick D__law_drawn D__law_is_taken D__law_bent D__law_is_fine F__law_right, PySem.W.mg_of X G a__law_right, k__law_right, B__law_right⟩
  have F__law_dice := fun_mk (st := s__law_dice) l__law_dice c__law_dice k__law_dice
  have B__law_dice := F__law_dice.binds (ps := ["_law_script", "_law_spot"]) fun _ _ _ _ _ _ us hl => match us, hl with | [_, _], _ => rfl
  have D__law_dice : Cal l.prog w K mg base "_law_dice" 1 ["_law_script", "_law_spot"] (sp__law_dice K) := ⟨_, _, ok__law_dice (P := l.prog) (w := w) (base := base) T F__law_dice, PySem.W.mg_of X G a__law_dice, k__law_dice, B__law_dice⟩
  have F_law := fun_mk (st := s_law) l_law c_law k_law
  exact ok_law (P := l.prog) (w := w) (base := base) T D__law_is_taken D__law_right D__law_dice F_law
end My

open PySem PySem.W PyProof.Rows in
set_option maxRecDepth 100000 in
set_option maxHeartbeats 0 in
theorem PySem.Challenge.cw_fromparts_k18_nodes_judged_holds : PySem.Challenge.rw_fromparts_k18_nodes_judged.Holds := by
  w_on; o_law; k_head; (case hw => w_witness2)
  k_fill
  refine My.walk_ofG (l := PySem.Challenge.rw_fromparts_k18_nodes_judged) (k := 13) (x := "_law_script") (sp := My.sp_law) rfl rfl ⟨rfl, by decide, by decide⟩ (fun w h Y => PySem.W.kIn_of Y) ?F (fun _ _ a ns hl hS => ⟨a, ns, rfl, hS, hl, fun _ => rfl⟩)
  case F =>
    intro w mg fa h KX G hmg
    refine' My.all_mk KX G hmg ?aC_Program ?pg_Program ?hd_Program ?po_Program ?sa_Program ?mk_Program ?kc_Program ?n_nodes_Program ?n_text_Program ?n_above_Program ?n_parts_Program ?fst_Program ?nfs_Program ?tyt_Program ?od_NoneType_Program ?nf_NoneType_Program ?od_int_Program ?nf_int_Program ?od_str_Program ?nf_str_Program ?od_tuple_Program ?nf_tuple_Program ?od_list_Program ?nf_list_Program ?od_dict_Program ?nf_dict_Program ?ne_Program ?un_Program ?cl1_Program ?cl2_Program ?cl3_Program ?cl4_Program ?a_Program_nodes ?g_Program_nodes ?t_Program_nodes ?r_Program_nodes ?l_Program_nodes ?c_Program_nodes ?k_Program_nodes ?a_bounds_of ?l_bounds_of ?c_bounds_of ?k_bounds_of ?a_text_of_nodes ?l_text_of_nodes ?c_text_of_nodes ?k_text_of_nodes ?a_places_above ?l_places_above ?c_places_above ?k_places_above ?a_gaps_of ?l_gaps_of ?c_gaps_of ?k_gaps_of ?a_is_variable ?l_is_variable ?c_is_variable ?k_is_variable ?a_is_word ?l_is_word ?c_is_word ?k_is_word ?a_is_integer ?l_is_integer ?c_is_integer ?k_is_integer ?a__is_count ?l__is_count ?c__is_count ?k__is_count ?a__is_node ?l__is_node ?c__is_node ?k__is_node ?a_level_of ?l_level_of ?c_level_of ?k_level_of ?a_are_nodes ?l_are_nodes ?c_are_nodes ?k_are_nodes ?a_Program___init__ ?i_Program___init__ ?l_Program___init__ ?c_Program___init__ ?k_Program___init__ ?a__law_is_taken ?l__law_is_taken ?c__law_is_taken ?k__law_is_taken ?a__law_program_nodes ?l__law_program_nodes ?c__law_program_nodes ?k__law_program_nodes ?a__law_roll ?l__law_roll ?c__law_roll ?k__law_roll ?a__law_pick ?l__law_pick ?c__law_pick ?k__law_pick ?a__law_program_parts ?l__law_program_parts ?c__law_program_parts ?k__law_program_parts ?a__law_drawn ?l__law_drawn ?c__law_drawn ?k__law_drawn ?a__law_bent ?l__law_bent ?c__law_bent ?k__law_bent ?a__law_is_fine ?l__law_is_fine ?c__law_is_fine ?k__law_is_fine ?a__law_right ?l__law_right ?c__law_right ?k__law_right ?a__law_dice ?l__law_dice ?c__law_dice ?k__law_dice ?a_law ?l_law ?c_law ?k_law ?z_RuntimeError ?z_ValueError ?z_abs ?z_all ?z_bool ?z_classmethod ?z_dict ?z_enumerate ?z_int ?z_isinstance ?z_iter ?z_len ?z_list ?z_max ?z_min ?z_property ?z_range ?z_set ?z_sorted ?z_str ?z_sum ?z_tuple ?g_MAX_LETTERS ?g_GAP ?g_VARIABLE ?g_MAX_BOUND ?g__MAX_COUNT ?g__BINDER ?g__DOT ?g__OPEN ?g__CLOSE ?g__END ?g_MAX_NODES ?ea_InvalidProgram ?ex_InvalidProgram ?ek_InvalidProgram ?eb_InvalidProgram ?et_InvalidProgram
    (case aC_Program => k_is)
    (case pg_Program => k_is)
    (case hd_Program => k_is)
    (case po_Program => k_is)
    (case sa_Program => k_is)
    (case mk_Program => k_is)
    (case kc_Program => k_is)
    (case n_nodes_Program => k_is)
    (case n_text_Program => k_is)
    (case n_above_Program => k_is)
    (case n_parts_Program => k_is)
    (case fst_Program => k_is)
    (case nfs_Program => k_is)
    (case tyt_Program => k_is)
    (case od_NoneType_Program => k_is)
    (case nf_NoneType_Program => k_is)
    (case od_int_Program => k_is)
    (case nf_int_Program => k_is)
    (case od_str_Program => k_is)
    (case nf_str_Program => k_is)
    (case od_tuple_Program => k_is)
    (case nf_tuple_Program => k_is)
    (case od_list_Program => k_is)
    (case nf_list_Program => k_is)
    (case od_dict_Program => k_is)
    (case nf_dict_Program => k_is)
    (case ne_Program => k_is)
    (case un_Program => k_is)
    (case cl1_Program => k_is)
    (case cl2_Program => k_is)
    (case cl3_Program => k_is)
    (case cl4_Program => k_is)
    (case a_Program_nodes => k_is)
    (case g_Program_nodes => k_is)
    (case t_Program_nodes => k_is)
    (case r_Program_nodes => k_is)
    (case l_Program_nodes => k_is)
    (case c_Program_nodes => k_is)
    (case k_Program_nodes => k_is)
    (case a_bounds_of => k_is)
    (case l_bounds_of => k_is)
    (case c_bounds_of => k_is)
    (case k_bounds_of => k_is)
    (case a_text_of_nodes => k_is)
    (case l_text_of_nodes => k_is)
    (case c_text_of_nodes => k_is)
    (case k_text_of_nodes => k_is)
    (case a_places_above => k_is)
    (case l_places_above => k_is)
    (case c_places_above => k_is)
    (case k_places_above => k_is)
    (case a_gaps_of => k_is)
    (case l_gaps_of => k_is)
    (case c_gaps_of => k_is)
    (case k_gaps_of => k_is)
    (case a_is_variable => k_is)
    (case l_is_variable => k_is)
    (case c_is_variable => k_is)
    (case k_is_variable => k_is)
    (case a_is_word => k_is)
    (case l_is_word => k_is)
    (case c_is_word => k_is)
    (case k_is_word => k_is)
    (case a_is_integer => k_is)
    (case l_is_integer => k_is)
    (case c_is_integer => k_is)
    (case k_is_integer => k_is)
    (case a__is_count => k_is)
    (case l__is_count => k_is)
    (case c__is_count => k_is)
    (case k__is_count => k_is)
    (case a__is_node => k_is)
    (case l__is_node => k_is)
    (case c__is_node => k_is)
    (case k__is_node => k_is)
    (case a_level_of => k_is)
    (case l_level_of => k_is)
    (case c_level_of => k_is)
    (case k_level_of => k_is)
    (case a_are_nodes => k_is)
    (case l_are_nodes => k_is)
    (case c_are_nodes => k_is)
    (case k_are_nodes => k_is)
    (case a_Program___init__ => k_is)
    (case i_Program___init__ => k_is)
    (case l_Program___init__ => k_is)
    (case c_Program___init__ => k_is)
    (case k_Program___init__ => k_is)
    (case a__law_is_taken => k_is)
    (case l__law_is_taken => k_is)
    (case c__law_is_taken => k_is)
    (case k__law_is_taken => k_is)
    (case a__law_program_nodes => k_is)
    (case l__law_program_nodes => k_is)
    (case c__law_program_nodes => k_is)
    (case k__law_program_nodes => k_is)
    (case a__law_roll => k_is)
    (case l__law_roll => k_is)
    (case c__law_roll => k_is)
    (case k__law_roll => k_is)
    (case a__law_pick => k_is)
    (case l__law_pick => k_is)
    (case c__law_pick => k_is)
    (case k__law_pick => k_is)
    (case a__law_program_parts => k_is)
    (case l__law_program_parts => k_is)
    (case c__law_program_parts => k_is)
    (case k__law_program_parts => k_is)
    (case a__law_drawn => k_is)
    (case l__law_drawn => k_is)
    (case c__law_drawn => k_is)
    (case k__law_drawn => k_is)
    (case a__law_bent => k_is)
    (case l__law_bent => k_is)
    (case c__law_bent => k_is)
    (case k__law_bent => k_is)
    (case a__law_is_fine => k_is)
    (case l__law_is_fine => k_is)
    (case c__law_is_fine => k_is)
    (case k__law_is_fine => k_is)
    (case a__law_right => k_is)
    (case l__law_right => k_is)
    (case c__law_right => k_is)
    (case k__law_right => k_is)
    (case a__law_dice => k_is)
    (case l__law_dice => k_is)
    (case c__law_dice => k_is)
    (case k__law_dice => k_is)
    (case a_law => k_is)
    (case l_law => k_is)
    (case c_law => k_is)
    (case k_law => k_is)
    (case z_RuntimeError => k_is)
    (case z_ValueError => k_is)
    (case z_abs => k_is)
    (case z_all => k_is)
    (case z_bool => k_is)
    (case z_classmethod => k_is)
    (case z_dict => k_is)
    (case z_enumerate => k_is)
    (case z_int => k_is)
    (case z_isinstance => k_is)
    (case z_iter => k_is)
    (case z_len => k_is)
    (case z_list => k_is)
    (case z_max => k_is)
    (case z_min => k_is)
    (case z_property => k_is)
    (case z_range => k_is)
    (case z_set => k_is)
    (case z_sorted => k_is)
    (case z_str => k_is)
    (case z_sum => k_is)
    (case z_tuple => k_is)
    (case g_MAX_LETTERS => k_is)
    (case g_GAP => k_is)
    (case g_VARIABLE => k_is)
    (case g_MAX_BOUND => k_is)
    (case g__MAX_COUNT => k_is)
    (case g__BINDER => k_is)
    (case g__DOT => k_is)
    (case g__OPEN => k_is)
    (case g__CLOSE => k_is)
    (case g__END => k_is)
    (case g_MAX_NODES => k_is)
    (case ea_InvalidProgram => k_is)
    (case ex_InvalidProgram => kernel_rfl)
    (case ek_InvalidProgram => k_is)
    (case eb_InvalidProgram => k_is)
    (case et_InvalidProgram => k_is)
