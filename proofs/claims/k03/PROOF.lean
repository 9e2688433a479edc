import PyProof.Rows.All
import Wide.All
import OpenK.AllK
import Wide.FinOn
import HandS.ForMost
import HandS.IsInst
import HandS.Steps
import HandS.Property
import HandS.ClsMeth
import HandS.FStr
import PyProof.ListStr
import PyProof.CallFns
import PyProof.Rows.RuleB_pow
import KE.KOpsOwn
import OpenK.KMeth
import HandS.RaiseMore
import KE.KCallOwn
import HandS.SetTxt0
import HandS.SetFor
import HandS.Strs
import HandS.IterVal
import KE.KOwnIter
import HandS.TupAny
import HandS.More
import HandS.WordsDict
import HandS.DictComp
import PyProof.P3Eq
import HandS.Style
import PySem.Challenge.RW_fromparts_k03_kinds_told
set_option Elab.async false
set_option linter.all false
set_option maxRecDepth 100000
set_option maxHeartbeats 2000000
namespace My
open PySem PySem.Spec PyProof.Rows L2 TL
/-! ### defs called where no repr is under way: what A.guards says is handed down -/
structure FnOkG (P : Program) (w : World) (K : PySem.W.Frag) (mg : Str → Option Value) (base : Heap) (CX : CXT) (k : Nat) (f : Addr) (fd : FuncData) (ps : List Str) (sp : Sp) : Prop where
  arity : ∀ vs H Q E, sp vs H Q E → vs.length = ps.length
  go : ∀ (B : Around) (fr : List Env) (t : Shared) (H : Hp) (ar : Args) (us : List Value) (vs : List V) (Q : VK) (E : XK), Room k B → B.guards = some [] → Env0 P w K mg base B fr t H → BindsTo t fd ar (ps.zip us) → Vals vs us → sp vs H Q E →
    codeAny (model P w) B (.call (.ref f) ar) (CR CX fr P w H t Q E) t
theorem FnOkG.lift {P : Program} {w : World} {K : PySem.W.Frag} {mg : Str → Option Value} {base : Heap} {CX : CXT} {k : Nat} {f : Addr} {fd : FuncData} {ps : List Str} {sp : Sp}
    (F : FnOk P w K mg base CX k f fd ps sp) : FnOkG P w K mg base CX k f fd ps sp := ⟨F.len, fun B fr t H ar us vs Q E hr _ => F.run B fr t H ar us vs Q E hr⟩
section
variable {P : Program} {w : World} {K : PySem.W.Frag} {mg : Str → Option Value} {base : Heap}
theorem _root_.L2.Fun.okG {CX : CXT} {x qual : Str} {st : Stmt} {f : Addr} {fd : FuncData} {N ps : List Str} {k : Nat} {sp : Sp} (F : Fun K x qual st f fd) (S : FnScope N ps (defScope st)) (ar : ∀ vs H Q E, sp vs H Q E → vs.length = ps.length)
    (body : ∀ (cv : Value) (B : Around) (fr : List Env) (t : Shared) (H : Hp) (vs : List V) (Q : VK) (E : XK), Room k (B.deeper (envOfC qual (defScope st) t.heap.objs.size f cv)) → (B.deeper (envOfC qual (defScope st) t.heap.objs.size f cv)).guards = some [] → sp vs H Q E →
      ∃ r, PSs (cxOf CX P w K mg base N qual (defScope st) f cv B fr t H E).nox (defBody st) r ∧ r { nx := fun _ H' => Q .non H', rt := Q } (start N vs) H) : FnOkG P w K mg base CX (k + 1) f fd ps sp := by
  obtain ⟨oc, od, kV, doc, pm, an, cv, ct, osl, rfl, found, isCode⟩ := F.ex
  refine ⟨ar, fun B fr t H args us vs Q E room still env binds vals wish => ?_⟩
  have there : K.In t.heap := env.mod.kin.keeps (fun b o e => (env.bs b o e).1)
  have noLim : t.heap.NoLimit := env.mod.nolimit.keeps (fun b o e => (env.bs b o e).1)
  have kinds : ∀ y ∈ ps.zip us, (defScope st).names.lookup y.1 = some .local ∨ ((defScope st).names.lookup y.1 = some .cell ∧ ((cellsFrom (t.heap.objs.size + 1) (defScope st).names []).lookup y.1).isSome = true) := by
    rintro ⟨n, v⟩ hy
    exact (S.par n (List.of_mem_zip hy).1).imp id fun q => ⟨q, PySem.W.cellsFrom_some _ _ _ (.inl q)⟩
  refine codeAny_call_function room.depth (there _ _ found)
    rfl S.co S.gen rfl (PySem.W.codeRec_of there isCode) (binds _ _ _ _
      (wpAny_newFunctionEnv_cells S.kind kinds fun env' eq t1 start1 => ?_))
  subst eq
  refine ⟨noLim.keeps start1.toInCall.keep, codeAny_func ?_⟩
  obtain ⟨r, runs, ends⟩ := body cv B fr t H vs Q E (room.deeper _) still wish
  refine wpAny_mono (runs.nox.run [] t1 (start N vs) H _ (inv_start S room.hd env (ar _ _ _ _ wish) vals start1) ends) ?_ fun _ _ z => z
  intro fl t2 got
  cases fl with
  | ret u =>
    obtain ⟨v, σ', H', J, rv, q⟩ := got
    exact ⟨v, H', J.os, J.bare, J.base, J.hok, rv, q⟩
  | next =>
    obtain ⟨σ', H', J, q⟩ := got
    exact ⟨V.non, H', J.os, J.bare, J.base, J.hok, rfl, q⟩
  | brk => exact got.choose_spec.choose_spec.2.elim
  | cont => exact got.choose_spec.choose_spec.2.elim
end
/-! ### defs by their promises -/
structure Cal (P : Program) (w : World) (K : PySem.W.Frag) (mg : Str → Option Value) (base : Heap) (x : Str) (k : Nat) (ps : List Str) (sp : Sp) : Prop where
  ex : ∃ f fd, FnOkG P w K mg base CX0 k f fd ps sp ∧ mg x = some (.ref f) ∧ PySem.W.keepIn K (.ref f) = true ∧ Binds K fd ps []
theorem Cal.of {P : Program} {w : World} {K : PySem.W.Frag} {mg : Str → Option Value} {base : Heap} {x q : Str} {k : Nat} {ps : List Str} {sp : Sp} {st : Stmt} {f : Addr} {fd : FuncData}
    (F : Fun K x q st f fd) (hm : mg x = some (.ref f)) (hb : Binds K fd ps []) (ok : FnOkG P w K mg base CX0 k f fd ps sp) : Cal P w K mg base x k ps sp := ⟨f, fd, ok, hm, F.kp, hb⟩
section
variable {X : Cx} {k : Nat} {f : Addr} {fd : FuncData} {ps : List Str} {sp : Sp} {ds : List Value} {dvs : List V} {E : XK} {CX : CXT}
/-- the callee runs, no repr under way -/
theorem run_fnG {pins : List (Addr × Obj)} {σ : L2.St} {H : Hp} {s : Shared} {Q : VK} {us : List Value} {vs : List V} (F : FnOkG X.prog X.w X.K X.mg X.base CX k f fd ps sp) (room : Room k X.A) (still : X.A.guards = some [])
    (binds : Binds X.K fd ps ds) (dv : Vals dvs ds) (pass : Passes CX X E) (I : Inv X pins σ H s) (rel : Vals vs us) (wish : sp (vs ++ dvs) H Q E) : wpAny (model X.prog X.w) X.A (call (.ref f) us) (EP X pins σ Q) X.xe s := by
  have both := rel.append dv
  have len : (us ++ ds).length = ps.length := both.length.symm.trans (F.arity _ _ _ _ wish)
  have ran := F.go X.A X.stack s H ⟨us, []⟩ (us ++ ds) (vs ++ dvs) Q E room still I.env0 (binds s us I.kIn len) both wish
  refine wpAny_call (codeAny_mono ran ?_)
  intro r s' h
  match r, h with
  | .error e, h => exact pass pins σ H s e s' I h
  | .ok (.ret u), h => exact I.after h
  | .ok .next, h => exact False.elim h
  | .ok .brk, h => exact False.elim h
  | .ok .cont, h => exact False.elim h
end
section
variable {X : Cx} {x : Str} {k : Nat} {ps : List Str} {sp : Sp} {e : Expr} {es : List Expr} {t : TA} {p pos : Pos}
theorem pe_callC (C : Cal X.prog X.w X.K X.mg X.base x k ps sp) (room : Room k X.A) (still : X.A.guards = some []) (hg : Gl X x) (ha : PA X (e :: es) t) (hdb : (x == ("__debug__" : Str)) = false := by decide)
    (he : starEach (e :: es) X.env = (false, eval e X.env) :: starEach es X.env := by rfl) (hpl : (backTo pos (starEach es X.env)).any (·.1) = false := by rfl) :
    PE X (.Call (.Name x p) (e :: es) [] pos) (tCall sp [] E0 t) := by
  obtain ⟨f, fd, ok, hm, kp, hb⟩ := C.ex
  refine ⟨fun pins s σ H Q I h => wpAny_Call_Name_kw (ld_glob I hg hm ?_ hdb)⟩
  have args := thn (ha.run pos pins s σ H _ I h) (Q' := fun us s1 => X.K.In s1.heap ∧ wpAny (model X.prog X.w) X.A (call (.ref f) us) (EP X pins σ Q) X.xe s1) fun us s1 ⟨vs, H1, I1, r, q⟩ =>
    ⟨I1.kIn, run_fnG ok room still hb .nil pass0 I1 r q⟩
  exact PySem.W.callWith_K (h₀ := X.base) I.ok.mod.kin kp args he hpl
theorem pe_globE {x : Str} {v : V} (hg : Gl X x) (h : ∃ u, X.mg x = some u ∧ RelV v u) (hd : (x == ("__debug__" : Str)) = false := by decide) : PE X (.Name x pos) (tC v) := by
  obtain ⟨u, hm, r⟩ := h
  exact pe_glob hg hm r hd
theorem op_powW : OpR X (binaryOp .Pow) (rI (fun i j => 0 ≤ j ∧ (Builtin.Int.intBits i : Int) * j ≤ 2 ^ 27) fun i j => .int (i ^ j.toNat)) := opI fun _ _ _ _ _ _ _ hc q => PyProof.Rows.pow_int hc.1 hc.2 q
theorem call_repr_bl : CallR X (.builtin "repr") (fun xs H Q => ∃ b, xs = [.bl b] ∧ Q (.str (if b then "True" else "False")) H) := by
  intro pins s σ H xs us Q I r h
  obtain ⟨b, rfl, q⟩ := h
  obtain ⟨u, rfl, r1⟩ := vals1 r
  cases r1
  exact PySem.P.repr_of_bool ⟨.str _, H, I.tok _, ⟨_, rfl⟩, q⟩
def sgnV (x : Str) : List V := x.cps.toList.map fun c => V.str ⟨#[c]⟩
theorem vals_signs : ∀ (l : List Nat) (ys : List Value), ys.length = l.length → (∀ (j : Nat) (v : Value), ys[j]? = some v → ∃ c u, l[j]? = some c ∧ v = .str ⟨#[c]⟩ u) → Vals (l.map fun c => V.str ⟨#[c]⟩) ys
  | [], [], _, _ => .nil
  | [], _ :: _, h, _ => by simp at h
  | _ :: _, [], h, _ => by simp at h
  | c :: l, y :: ys, h, f => by
    obtain ⟨c', u, e1, e2⟩ := f 0 y rfl
    have e3 : c = c' := Option.some.inj e1
    subst e3
    exact .cons ⟨u, e2⟩ (vals_signs l ys (by simpa using h) fun j v e => f (j + 1) v e)
theorem call_list_text (hc : X.calm = true) : CallR X (.type "list") (fun xs H Q => ∃ x : Str, xs = [.str x] ∧ x.length ≤ sizeLine ∧ ∀ l, H l = none → Q (.ref l) (upd H l (.lst (sgnV x)))) := by
  intro pins s σ H xs us Q I r h
  obtain ⟨x, rfl, hz, q⟩ := h
  obtain ⟨u, rfl, t, rfl⟩ := vals1 r
  refine call_list_str (hn := hz) (I.ok.hd hc) x t fun h' tk acc' c' hk hS' hacc => ?_
  have hv : Vals (sgnV x) acc'.toList := vals_signs _ _ (by simp [hacc.1]) fun j v e => by
    obtain ⟨c, u, h1, h2⟩ := hacc.2 j v (by simpa using e)
    exact ⟨c, u, by simpa using h1, h2⟩
  exact ⟨.ref s.heap.objs.size, _, I.laid (t' := tk) hk (Nat.le_refl _) (show ObjOk X.prog X.w _ h' _ (.lst (sgnV x)) from ⟨by simp [sgnV]; exact hz, acc'.toList, c', hv, by simpa using hS'⟩), rfl, q _ (I.hok.fresh (Nat.le_refl _))⟩
end
/-! ### heaps: all stands but the dice -/
def Ext (d : Addr) (H H' : Hp) : Prop := ∀ a o, a ≠ d → H a = some o → H' a = some o
theorem Ext.refl {d : Addr} (H : Hp) : Ext d H H := fun _ _ _ h => h
theorem Ext.trans {d : Addr} {H H1 H2 : Hp} (a : Ext d H H1) (b : Ext d H1 H2) : Ext d H H2 := fun x o n h => b x o n (a x o n h)
theorem Ext.new {d : Addr} {H H1 : Hp} (a : Ext d H H1) {p : Addr} {o : HO} (h : H1 p = none) : Ext d H (upd H1 p o) := fun x u n e => by
  rw [upd_ne (ne_of_none (a x u n e) h)]
  exact a x u n e
theorem Ext.same {d : Addr} {H H' : Hp} (h : Same H H') : Ext d H H' := fun a o _ e => h a o e
theorem Ext.set {d : Addr} {H : Hp} {o : HO} : Ext d H (upd H d o) := fun a u n e => by
  rw [upd_ne n]
  exact e
theorem Ext.mut {d : Addr} {H H1 : Hp} (a : Ext d H H1) {p : Addr} {o : HO} (h : H p = none) : Ext d H (upd H1 p o) := fun x u n e => by
  rw [upd_ne (ne_of_none e h)]
  exact a x u n e
theorem Ext.none {d : Addr} {H H' : Hp} (e : Ext d H H') {l : Addr} (n : l ≠ d) (h : H' l = Option.none) : H l = Option.none := by
  cases q : H l with
  | none => rfl
  | some o =>
    rw [e l o n q] at h
    cases h
theorem _root_.L2.Same.new {H H1 : Hp} (a : Same H H1) {p : Addr} {o : HO} (h : H1 p = none) : Same H (upd H1 p o) := fun x u e => by
  rw [upd_ne (ne_of_none (a x u e) h)]
  exact a x u e
theorem _root_.L2.Same.mut {H H1 : Hp} (a : Same H H1) {p : Addr} {o : HO} (h : H p = none) : Same H (upd H1 p o) := fun x u e => by
  rw [upd_ne (ne_of_none e h)]
  exact a x u e
def IsDice (H : Hp) (d : Addr) : Prop := ∃ a b c : Int, H d = some (.lst [.int a, .int b, .int c])
theorem IsDice.some {H : Hp} {d : Addr} (h : IsDice H d) : ∃ o, H d = Option.some o := ⟨_, h.choose_spec.choose_spec.choose_spec⟩
theorem IsDice.ne {H : Hp} {d l : Addr} (h : IsDice H d) (n : H l = none) : l ≠ d := by
  obtain ⟨o, e⟩ := h.some
  exact fun z => by
    rw [z, e] at n
    cases n
theorem IsDice.new {H : Hp} {d p : Addr} {o : HO} (h : IsDice H d) (n : H p = none) : IsDice (upd H p o) d := by
  have hn := h.ne n
  obtain ⟨a, b, c, e⟩ := h
  exact ⟨a, b, c, by rw [upd_ne hn.symm]; exact e⟩
theorem IsDice.mut {H : Hp} {d p : Addr} {o : HO} (h : IsDice H d) (n : p ≠ d) : IsDice (upd H p o) d := by
  obtain ⟨a, b, c, e⟩ := h
  exact ⟨a, b, c, by rw [upd_ne n.symm]; exact e⟩
theorem IsDice.same {H H' : Hp} {d : Addr} (h : IsDice H d) (s : Same H H') : IsDice H' d := by
  obtain ⟨a, b, c, e⟩ := h
  exact ⟨a, b, c, s _ _ e⟩
/-- where lists stand -/
theorem sql_ext {K : PySem.W.Frag} {H H' : Hp} {d a : Addr} {xs : List V} (e : Ext d H H') (n : a ≠ d) (h : SqL K H a xs) : SqL K H' a xs := by
  rcases h with (h | ⟨o, h⟩) | h
  · exact .inl (.inl (e _ _ n h))
  · exact .inl (.inr ⟨o, e _ _ n h⟩)
  · exact .inr h
theorem lt_line {n : Nat} (h : n ≤ 1000000) : n ≤ sizeLine := Nat.le_trans h (by decide)
theorem lt_line' {n : Nat} (h : n < 1000000) : n < sizeLine := Nat.lt_of_lt_of_le h (by decide)
/-! ### the dice's promises -/
/-- a new dice; the list of the script, an index -/
def sp__law_dice (K : PySem.W.Frag) : Sp := fun vs H Q _ => ∃ (a : Addr) (ns : List Int) (i : Int), vs = [.ref a, .int i] ∧ SqL K H a (ns.map V.int) ∧ 0 ≤ i ∧ i < 64 ∧
  ∀ d o, H d = none → IsDice (upd H d o) d → Q (.ref d) (upd H d o)
def sp__law_roll (_ : PySem.W.Frag) : Sp := fun vs H Q _ => ∃ (d : Addr) (n : Int), vs = [.ref d, .int n] ∧ IsDice H d ∧ 0 < n ∧ n < 1073741824 ∧
  ∀ r H', 0 ≤ r → r < n → Ext d H H' → IsDice H' d → Q (.int r) H'
def sp__law_pick (K : PySem.W.Frag) : Sp := fun vs H Q _ => ∃ (d l : Addr) (xs : List V), vs = [.ref d, .ref l] ∧ IsDice H d ∧ SqL K H l xs ∧ l ≠ d ∧ xs ≠ [] ∧ xs.length < 1000000 ∧
  ∀ x H', x ∈ xs → Ext d H H' → IsDice H' d → Q x H'
def sp__law_some (K : PySem.W.Frag) : Sp := fun vs H Q _ => ∃ (d l : Addr) (xs : List V) (n : Int), vs = [.ref d, .ref l, .int n] ∧ IsDice H d ∧ SqL K H l xs ∧ l ≠ d ∧ xs.length < 1000000 ∧ 0 ≤ n ∧
  ∀ p ys H', (∀ y ∈ ys, y ∈ xs) → ys.length ≤ xs.length → H p = none → p ≠ d → H' p = some (.lst ys) → Ext d H H' → IsDice H' d → Q (.ref p) H'
/-! ### a comprehension over a text -/
theorem lc_txt {x : Str} {g : TG} {tt : TT} {te : TE} {vs : List Nat} {σ : L2.St} {H1 : Hp} {D : Addr} {Qd : Hp → Prop} (Pv : Nat → Hp → Prop) (h0 : Pv 0 (upd H1 D (.lst [])))
    (hs : ∀ i c H, x.cps.toList[i]? = some c → Pv i H → g (.str ⟨#[c]⟩) (wipe σ vs) H fun σ2 H2 => wipe σ2 vs = wipe σ vs ∧ tt σ2 H2 fun b H3 =>
      if b = true then te σ2 H3 fun y H4 => ∃ acc, H4 D = some (.lst acc) ∧ acc.length < sizeLine ∧ Pv (i + 1) (upd H4 D (.lst (acc ++ [y]))) else Pv (i + 1) H3) (hd : ∀ H, Pv x.cps.toList.length H → Qd H) :
    ∃ W : Nat → Nat → Hp → Prop, (∃ m, W 0 m (upd H1 D (.lst []))) ∧ ∀ i m H, W i m H →
      ((Its x).stop i H ∧ Qd H) ∨ ((Its x).go i H ∧ ∃ Nx : Hp → Prop, (∀ H', Nx H' → ∃ m', m' < m ∧ W (i + 1) m' H') ∧ ∀ v H', (Its x).yld i H v H' → g v (wipe σ vs) H' fun σ2 H2 => wipe σ2 vs = wipe σ vs ∧ tt σ2 H2 fun b H3 =>
        if b = true then te σ2 H3 fun y H4 => ∃ acc, H4 D = some (.lst acc) ∧ acc.length < sizeLine ∧ Nx (upd H4 D (.lst (acc ++ [y]))) else Nx H3) := by
  refine ⟨fun i m H => m = x.cps.size - i ∧ i ≤ x.cps.size ∧ Pv i H, ⟨x.cps.size, by simp, Nat.zero_le _, h0⟩, ?_⟩
  rintro i m H ⟨rfl, hi, p⟩
  by_cases hlt : i < x.cps.size
  · refine .inr ⟨hlt, Pv (i + 1), fun H' p' => ⟨x.cps.size - (i + 1), by omega, rfl, hlt, p'⟩, fun v H' y => ?_⟩
    obtain ⟨e, c, ec, ev⟩ := y
    subst e ev
    exact hs i c _ (by simpa using ec) p
  · have e : i = x.cps.size := by omega
    exact .inl ⟨by show x.cps.size ≤ i; omega, hd H (by rw [e] at p; simpa using p)⟩
/-- flat data -/
theorem shaped_flat {ds : List PyData} (h : ∀ d ∈ ds, d.canLay0 = true ∧ d.depth = 0) : SeqAt.shaped (.list ds) = true ∧ SeqAt.shaped (.tuple ds) = true := by
  have a : ∀ ds : List PyData, (∀ d ∈ ds, d.canLay0 = true ∧ d.depth = 0) → PyData.canLayAll0 ds = true ∧ PyData.depthAll ds = 0 := by
    intro ds
    induction ds with
    | nil => intro _; exact ⟨rfl, rfl⟩
    | cons d r ih =>
      intro h
      have h1 := h d (List.mem_cons_self ..)
      have h2 := ih fun x hx => h x (List.mem_cons_of_mem _ hx)
      exact ⟨by rw [PyData.canLayAll0, h1.1, h2.1]; rfl, by rw [PyData.depthAll, h1.2, h2.2]; rfl⟩
  obtain ⟨a1, a2⟩ := a ds h
  constructor <;> (unfold SeqAt.shaped; rw [PyData.canLay0, PyData.depth, a1, a2]; rfl)
theorem strOk_ascii {x : Str} (h : ∀ c ∈ x.cps.toList, c < 128) : PyData.strOk x = true := by
  unfold PyData.strOk
  rw [← Array.all_toList]
  exact List.all_eq_true.mpr fun c hc => by
    have := h c hc
    simp
    omega
/-! ### comprehensions whose parts speak of the place where they stand -/
section
variable {X : Cx}
abbrev Dep (α : Type) := Shared → Hp → Addr → List (Str × Addr) → List Addr → α
abbrev Dep.at {α : Type} (t : Dep α) (X : Cx) : α := t X.s_0 X.H_0 0 [] []
theorem pe_lcD {elt tg iter : Expr} {ifs : List Expr} {scope : Scope} {own : List (Str × Nat)} {pos : Pos} {wi : TI} {g : Dep TG} {tt : Dep TT} {te : Dep TE} (hc : X.calm = true) (hN : X.N.Nodup) (hi : PI X tg iter wi) (ok : BlkOk X.N X.env.scope scope own)
    (hg : ∀ (s : Shared) (H : Hp) (C : Addr) (cl : List (Str × Addr)) (fp : List Addr), PG (X.blk s H scope (compEnvC scope cl C X.env) fp) tg (g s H C cl fp)) (ht : ∀ (s : Shared) (H : Hp) (C : Addr) (cl : List (Str × Addr)) (fp : List Addr), PTs (X.blk s H scope (compEnvC scope cl C X.env) fp) ifs (tt s H C cl fp))
    (he : ∀ (s : Shared) (H : Hp) (C : Addr) (cl : List (Str × Addr)) (fp : List Addr), PE (X.blk s H scope (compEnvC scope cl C X.env) fp) elt (te s H C cl fp)) (hs : ∀ x, foldedSetIterable iter X.env x = pure x := by intro _; rfl)
    (eg : ∀ s H C cl fp, g s H C cl fp = g.at X := by intros; rfl) (et : ∀ s H C cl fp, tt s H C cl fp = tt.at X := by intros; rfl) (ee : ∀ s H C cl fp, te s H C cl fp = te.at X := by intros; rfl) :
    PE X (.ListComp elt [⟨tg, iter, ifs, 0⟩] scope pos) (tLc wi (g.at X) (tt.at X) (te.at X) (own.map (·.2))) :=
  pe_lc hc hN hi ok (fun s H C cl fp => eg s H C cl fp ▸ hg s H C cl fp) (fun s H C cl fp => et s H C cl fp ▸ ht s H C cl fp) (fun s H C cl fp => ee s H C cl fp ▸ he s H C cl fp) hs
theorem ps_setLcD {i : Nat} {y : Str} {py : Pos} {elt tg iter : Expr} {ifs : List Expr} {scope : Scope} {own : List (Str × Nat)} {pos spos : Pos} {wi : TI} {g : Dep TG} {tt : Dep TT} {te : Dep TE} (hc : X.calm = true) (hN : X.N.Nodup) (hy : X.N[i]? = some y) (hyl : X.env.scope.names.lookup y = some .local)
    (hsw : swapsWith (.ListComp elt [⟨tg, iter, ifs, 0⟩] scope pos) (some (.Name y py)) spos.line X.env = pure true) (hi : PI X tg iter wi) (ok : BlkOk X.N X.env.scope scope own)
    (hg : ∀ (s : Shared) (H : Hp) (C : Addr) (cl : List (Str × Addr)) (fp : List Addr), PG (X.blk s H scope (compEnvC scope cl C X.env) fp) tg (g s H C cl fp)) (ht : ∀ (s : Shared) (H : Hp) (C : Addr) (cl : List (Str × Addr)) (fp : List Addr), PTs (X.blk s H scope (compEnvC scope cl C X.env) fp) ifs (tt s H C cl fp))
    (he : ∀ (s : Shared) (H : Hp) (C : Addr) (cl : List (Str × Addr)) (fp : List Addr), PE (X.blk s H scope (compEnvC scope cl C X.env) fp) elt (te s H C cl fp)) (hs : ∀ x, foldedSetIterable iter X.env x = pure x := by intro _; rfl)
    (eg : ∀ s H C cl fp, g s H C cl fp = g.at X := by intros; rfl) (et : ∀ s H C cl fp, tt s H C cl fp = tt.at X := by intros; rfl) (ee : ∀ s H C cl fp, te s H C cl fp = te.at X := by intros; rfl) :
    PS X (.Assign [.Name y py] (.ListComp elt [⟨tg, iter, ifs, 0⟩] scope pos) spos) (tAsg (tLc wi (g.at X) (tt.at X) (te.at X) (own.map (·.2))) (gName i)) :=
  ps_setLc hc hN hy hyl hsw hi ok (fun s H C cl fp => eg s H C cl fp ▸ hg s H C cl fp) (fun s H C cl fp => et s H C cl fp ▸ ht s H C cl fp) (fun s H C cl fp => ee s H C cl fp ▸ he s H C cl fp) hs
end
theorem tyes {σ : L2.St} {H : Hp} {A B : Hp → Prop} (h : A H) : tYes σ H (fun b H3 => if b = true then A H3 else B H3) := by
  show (if true = true then A H else B H)
  exact iteT h
/-- the law -/
def sp_law (K : PySem.W.Frag) : Sp := fun vs H Q _ => ∃ (a : Addr) (ns : List Int), vs = [.ref a] ∧ SqL K H a (ns.map V.int) ∧ ns.length ≤ 63 ∧ ∀ H', Q (.bl true) H'
theorem same_ext {H H1 H2 : Hp} {d : Addr} (s : Same H H1) (n : H d = none) (e : Ext d H1 H2) : Same H H2 := fun a o h => e a o (ne_of_none h n) (s a o h)
/-- how many cells the law looks at -/
theorem cells_ok {n : Nat} (h : n ≤ 63) : ∀ j : Int, j = (if (if (n : Int) < 8 then (n : Int) else 8) > 1 then (if (n : Int) < 8 then (n : Int) else 8) else 1) → 1 ≤ j ∧ j ≤ 8 := by
  intro j e
  by_cases h1 : (n : Int) < 8
  · rw [if_pos h1] at e
    by_cases h2 : (n : Int) > 1
    · rw [if_pos h2] at e
      omega
    · rw [if_neg h2] at e
      omega
  · rw [if_neg h1] at e
    rw [if_pos (by decide)] at e
    omega
theorem mem_strs {m : List Str} {x : V} (h : x ∈ m.map V.str) : ∃ y ∈ m, x = .str y := by
  obtain ⟨y, h1, h2⟩ := List.mem_map.mp h
  exact ⟨y, h1, h2.symm⟩
theorem dp_signs {K : PySem.W.Frag} {H : Hp} : ∀ l : List Nat, DpAll K H (l.map fun c => V.str ⟨#[c]⟩) (l.map fun c => PyData.str ⟨#[c]⟩)
  | [] => .nil
  | _ :: l => .cons (.str _) (dp_signs l)
theorem dp_bls {K : PySem.W.Frag} {H : Hp} : ∀ l : List Bool, DpAll K H (l.map V.bl) (l.map PyData.bool)
  | [] => .nil
  | _ :: l => .cons (.bl _) (dp_bls l)
theorem take_next {α : Type} {l : List α} {i : Nat} {x : α} (h : l[i]? = some x) : l.take (i + 1) = l.take i ++ [x] := by
  rw [List.take_add_one, h]
  rfl
theorem lt_of_get {α : Type} {l : List α} {i : Nat} {x : α} (h : l[i]? = some x) : i < l.length := (List.getElem?_eq_some_iff.mp h).1
theorem lex1 (a b : Nat) : decide ([a] < [b]) = decide (a < b) := by
  by_cases h : a < b
  · rw [decide_eq_true h]
    exact decide_eq_true (List.Lex.rel h)
  · rw [decide_eq_false h]
    refine decide_eq_false fun z => ?_
    cases z with
    | rel h' => exact h h'
    | cons h' => cases h'
/-! ### the law's call -/
section
variable {P : Program} {w : World} {K : PySem.W.Frag} {mg mb : Str → Option Value} {CX : CXT} {k : Nat} {fa a : Addr} {fd : FuncData} {x : Str} {sp : Sp} {t : Shared} {items : List Value} {ns : List Int}
/-- the law's call at an abstract heap that knows nothing but, perhaps, the script -/
theorem call_from (inK : K.In t.heap) (glob : t.heap.Ns mainGlobals mg) (blt : t.heap.Ns builtinsNs mb) (bltBoot : ∀ x : Str, x ≠ "__name__" → mb x = bootBuiltins x) (noLim : t.heap.NoLimit) (noGens : t.gens = #[])
    (script : t.heap.get? a = some { cls := .type "list", data := .seq items.toArray }) (room : Room k callerA)
    (F : ∀ base : Heap, K.In base → base.Ns mainGlobals mg → FnOkG P w K mg base CX k fa fd [x] sp) (binds : ∀ (s : Shared) (u : Value), BindsTo s fd ⟨[u], []⟩ [(x, u)])
    (none' : ∀ H e s', CX [] H t (fun _ _ _ => False) e s' → False)
    (H : Hp) (only : Only H) (fine : HOk P w H t.heap) (atA : ∀ b, H b ≠ none → b = a ∧ K.lookup a = none) (wish : sp [.ref a] H (fun v _ => v = .bl true) fun _ _ _ => False) :
    codeAny (model P w) callerA (.call (.ref fa) ⟨[.ref a], []⟩) (fun r s' => r = .ok (.ret (.bool true)) ∧ OldK t.heap s'.heap ∧ s'.os = t.os ∧ AllBare s'.gens) t := by
  -- what is no list stays in sight when the script is hidden
  have free : ∀ {b : Addr} {o : Obj}, t.heap.get? b = some o → (b = a → K.lookup a ≠ none ∨ ∃ es ep, o.data = .dict es ep) → H b = none := by
    intro b o e h
    by_cases q : H b = none
    · exact q
    · obtain ⟨rfl, kn⟩ := atA b q
      rcases h rfl with h | ⟨es, ep, h⟩
      · exact absurd kn h
      · rw [script] at e
        cases e
        cases h
  have names : ∀ {b : Addr} {m : Str → Option Value}, t.heap.Ns b m → (hidT t.heap H).Ns b m := by
    rintro b m ⟨o, es, ep, e, d, r⟩
    exact ⟨o, es, ep, hidT_get e (free e fun _ => .inr ⟨es, ep, d⟩), d, r⟩
  have inB : K.In (hidT t.heap H) := fun b o e => hidT_get (inK b o e) (free (inK b o e) fun q => .inl (by
    subst q
    rw [e]
    exact fun z => nomatch z))
  have module : Mod K mg (hidT t.heap H) := by
    obtain ⟨mc, l1, l2⟩ := noLim
    exact ⟨inB, names glob, ⟨mb, names blt, bltBoot⟩, ⟨mc, names l1, l2⟩⟩
  have ground : Env0 P w K mg (hidT t.heap H) callerA [] t H := by
    refine ⟨rfl, module, fun b o e => of_hidT e, ?_, trivial, ?_, fine, .of_eq noGens⟩
    · exact Nat.le_of_eq (hidT_size t.heap H)
    · intro b hb
      cases hb
  have ran := (F _ inB (names glob)).go callerA [] t H ⟨[.ref a], []⟩ [.ref a] [.ref a] (fun v _ => v = .bl true) (fun _ _ _ => False) room rfl ground (binds t (.ref a)) (.cons rfl .nil) wish
  refine codeAny_mono ran ?_
  intro r s' h
  match r, h with
  | .error e, h => exact (none' H e s' h).elim
  | .ok .next, h => exact False.elim h
  | .ok .brk, h => exact False.elim h
  | .ok .cont, h => exact False.elim h
  | .ok (.ret u), h =>
    obtain ⟨v, H', os, bare, un, fine', rel, rfl⟩ := h
    cases (show u = Value.bool true from rel)
    refine ⟨rfl, OldK.of_keep ?_, os, bare⟩
    intro b o e
    cases q : H b with
    | none => exact un.keep b o e q (fun z => nomatch z) (fun z => nomatch z)
    | some u =>
      rcases only b with z | ⟨ob, xs, z⟩
      · exact absurd (z.symm.trans q) (fun y => nomatch y)
      · have before := (fine b _ z).1
        have behind := (fine' b _ (un.frzs b ob _ z)).1
        rw [e] at before
        cases before
        exact behind
theorem law_callG (inK : K.In t.heap) (glob : t.heap.Ns mainGlobals mg) (blt : t.heap.Ns builtinsNs mb) (bltBoot : ∀ x : Str, x ≠ "__name__" → mb x = bootBuiltins x) (noLim : t.heap.NoLimit) (noGens : t.gens = #[])
    (script : t.heap.get? a = some { cls := .type "list", data := .seq items.toArray }) (areInts : IntsAre items ns) (short : ns.length ≤ sizeLine) (room : Room k callerA)
    (F : ∀ base : Heap, K.In base → base.Ns mainGlobals mg → FnOkG P w K mg base CX k fa fd [x] sp) (binds : ∀ (s : Shared) (u : Value), BindsTo s fd ⟨[u], []⟩ [(x, u)])
    (none' : ∀ H e s', CX [] H t (fun _ _ _ => False) e s' → False) (wish : ∀ H : Hp, Only H → SqL K H a (ns.map V.int) → sp [.ref a] H (fun v _ => v = .bl true) fun _ _ _ => False) :
    codeAny (model P w) callerA (.call (.ref fa) ⟨[.ref a], []⟩) (fun r s' => r = .ok (.ret (.bool true)) ∧ OldK t.heap s'.heap ∧ s'.os = t.os ∧ AllBare s'.gens) t := by
  have vals := vals_ints areInts
  cases kn : K.lookup a with
  | some o =>
    have o' := inK a o kn
    rw [script] at o'
    cases o'
    have o1 : Only fun _ => none := fun _ => .inl rfl
    refine call_from inK glob blt bltBoot noLim noGens script room F binds none' (fun _ => none) o1 (fun _ _ z => nomatch z) (fun _ z => absurd rfl z) (wish _ o1 (.inr ⟨_, items.toArray, _, kn, rfl, rfl, rfl, ?_, by simpa using vals⟩))
    rw [List.size_toArray, areInts.length]
    exact short
  | none =>
    let H : Hp := fun b => if b = a then some (.frz { cls := .type "list", data := .seq items.toArray } (.lst (ns.map V.int))) else none
    have here : H a = some (.frz { cls := .type "list", data := .seq items.toArray } (.lst (ns.map V.int))) := if_pos rfl
    have there : ∀ b, b ≠ a → H b = none := fun b hb => if_neg hb
    have o1 : Only H := fun b => if hb : b = a then .inr ⟨_, _, hb ▸ here⟩ else .inl (there b hb)
    refine call_from inK glob blt bltBoot noLim noGens script room F binds none' H o1 (fun b u z => ?_) (fun b z => ?_) (wish _ o1 (.inl (.inr ⟨_, here⟩)))
    · by_cases hb : b = a
      · subst hb
        rw [here] at z
        cases z
        exact ⟨script, by rw [List.length_map]; exact short, items, _, vals, script⟩
      · rw [there b hb] at z
        cases z
    · by_cases hb : b = a
      · exact ⟨hb, kn⟩
      · exact absurd (there b hb) z
end
theorem walk_ofG {l : PySem.W.OpenLaw} {k : Nat} {q : Program} {loose : List Str} {XP : (Str → Option Value) → Heap → Prop} {YP : World → Heap → Prop} {d : DefRec} {K : Params → PySem.W.Frag} {sp : PySem.W.Frag → Sp} {x : Str}
    (most : l.most = some 63) (plain : d.params.defaults = []) (room : Room k callerA) (hY : ∀ (w : World) (h : Heap), YP w h → (K w.params).In h)
    (F : ∀ (w : World) (mg : Str → Option Value) (fa : Addr) (h : Heap), (K w.params).In h → h.Ns mainGlobals mg → mg d.name = some (.ref fa) →
      ∃ fd : FuncData, (∀ (s : Shared) (u : Value), BindsTo s fd ⟨[u], []⟩ [(x, u)]) ∧ ∀ base : Heap, (K w.params).In base → base.Ns mainGlobals mg → FnOkG l.prog w (K w.params) mg base CX0 k fa fd [x] (sp (K w.params)))
    (wish : ∀ (K : PySem.W.Frag) (H : Hp) (a : Addr) (ns : List Int), ns.length ≤ 63 → SqL K H a (ns.map V.int) → sp K [.ref a] H (fun v _ => v = .bl true) fun _ _ _ => False) :
    PySem.W.WalkO q loose XP YP l.row.toRowW d [] (fun f vs => PySem.call f vs) := by
  refine Att.attach_call most plain ?_
  intro w s₀ s₁ mg mb fa o pm cd doc a vs ns G Y _ _ _ named script areInts len gens
  have inK := hY w _ Y
  obtain ⟨fd, binds, ok⟩ := F w mg fa _ inK G.T.g named
  exact law_callG inK G.T.g G.T.b G.T.builtins G.T.nolimit gens script areInts (Nat.le_trans len (by decide)) room ok binds (fun _ _ _ z => z) fun H _ hS => wish _ H a ns len hS
/-! ### repr of data -/
section
variable {X : Cx}
theorem call_repr_data (hG : X.A.guards = some []) (hu : X.A.units + 64 < cLine) : CallR X (.builtin "repr") (fun xs H Q => ∃ (p : Addr) (d : PyData), xs = [.ref p] ∧ Dp X.K H (.ref p) d ∧ d.showable = true ∧ d.hasDict = false ∧ d.depth ≤ 20 ∧ d.shown.length ≤ sizeLine ∧ Q (.str d.shown) H) := by
  intro pins s σ H xs us Q I r h
  obtain ⟨p, d, rfl, hd, h1, h2, h3, h4, q⟩ := h
  obtain ⟨u, rfl, r1⟩ := vals1 r
  cases r1
  obtain ⟨as, rd⟩ := Dp.reads I d (.ref p) (.ref p) hd rfl
  exact repr_of_reads' (h₀ := s.heap) rd h1 (fun z => by rw [h2] at z; cases z) hG (by omega) (fun _ _ e => e) (fun h' u tk k => ⟨.str d.shown, H, I.kept k, ⟨u, rfl⟩, q⟩) h4
end
/-! ### cuts: what is known behind a statement -/
theorem cut_set {te : TE} {i : Nat} {u : TS} {D : Ends} {σ : L2.St} {H : Hp} (PV : V → Hp → Prop) (h : ∀ Q : VK, (∀ v H', PV v H' → Q v H') → te σ H Q) (k : ∀ v H', PV v H' → u D (σ.set i (some v)) H') : tSeq (tAsg te (gName i)) u D σ H := h _ k
theorem cut_for {wi : TI} {g : TG} {tb u : TS} {D : Ends} {σ : L2.St} {H : Hp} (PS' : L2.St → Hp → Prop) (h : ∀ N : L2.St → Hp → Prop, (∀ σ' H', PS' σ' H' → N σ' H') → tFor wi g tb { D with nx := N } σ H) (k : ∀ σ' H', PS' σ' H' → u D σ' H') : tSeq (tFor wi g tb) u D σ H := h _ k
theorem cut_it {K : PySem.W.Frag} {te : TE} {g : TG} {tb : TS} {D : Ends} {σ : L2.St} {H : Hp} (PV : V → Hp → Prop) (h : ∀ Q : VK, (∀ v H', PV v H' → Q v H') → te σ H Q) (k : ∀ v H', PV v H' → tFor (iList K (fun _ H1 Q => Q v H1)) g tb D σ H') : tFor (iList K te) g tb D σ H := h _ k
section
variable {X : Cx}
theorem pe_lc2D {elt tg iter tg1 iter1 : Expr} {ifs ifs1 : List Expr} {scope : Scope} {own : List (Str × Nat)} {vs1 : List Nat} {pos : Pos} {wi : TI} {wi1 : Dep TI} {g g1 : Dep TG} {tt tt1 : Dep TT} {te : Dep TE} (hc : X.calm = true) (hN : X.N.Nodup) (hi : PI X tg iter wi) (ok : BlkOk X.N X.env.scope scope own) (hv : ∀ i ∈ vs1, i ∈ own.map (·.2))
    (hg : ∀ (s : Shared) (H : Hp) (C : Addr) (cl : List (Str × Addr)) (fp : List Addr), PG (X.blk s H scope (compEnvC scope cl C X.env) fp) tg (g s H C cl fp)) (ht : ∀ (s : Shared) (H : Hp) (C : Addr) (cl : List (Str × Addr)) (fp : List Addr), PTs (X.blk s H scope (compEnvC scope cl C X.env) fp) ifs (tt s H C cl fp))
    (hi1 : ∀ (s : Shared) (H : Hp) (C : Addr) (cl : List (Str × Addr)) (fp : List Addr), PI (X.blk s H scope (compEnvC scope cl C X.env) fp) tg1 iter1 (wi1 s H C cl fp))
    (hg1 : ∀ (s : Shared) (H : Hp) (C : Addr) (cl : List (Str × Addr)) (fp : List Addr), PG (X.blk s H scope (compEnvC scope cl C X.env) fp) tg1 (g1 s H C cl fp)) (ht1 : ∀ (s : Shared) (H : Hp) (C : Addr) (cl : List (Str × Addr)) (fp : List Addr), PTs (X.blk s H scope (compEnvC scope cl C X.env) fp) ifs1 (tt1 s H C cl fp))
    (he : ∀ (s : Shared) (H : Hp) (C : Addr) (cl : List (Str × Addr)) (fp : List Addr), PE (X.blk s H scope (compEnvC scope cl C X.env) fp) elt (te s H C cl fp)) (hs : ∀ x, foldedSetIterable iter X.env x = pure x := by intro _; rfl) (hs1 : ∀ env x, foldedSetIterable iter1 env x = pure x := by intro _ _; rfl)
    (eg : ∀ s H C cl fp, g s H C cl fp = g.at X := by intros; rfl) (et : ∀ s H C cl fp, tt s H C cl fp = tt.at X := by intros; rfl) (ei : ∀ s H C cl fp, wi1 s H C cl fp = wi1.at X := by intros; rfl) (eg1 : ∀ s H C cl fp, g1 s H C cl fp = g1.at X := by intros; rfl) (et1 : ∀ s H C cl fp, tt1 s H C cl fp = tt1.at X := by intros; rfl)
    (ee : ∀ s H C cl fp, te s H C cl fp = te.at X := by intros; rfl) :
    PE X (.ListComp elt [⟨tg, iter, ifs, 0⟩, ⟨tg1, iter1, ifs1, 0⟩] scope pos) (tLc2 wi (g.at X) (tt.at X) (wi1.at X) (g1.at X) (tt1.at X) (te.at X) (own.map (·.2)) vs1) :=
  pe_lc2 hc hN hi ok hv (fun s H C cl fp => eg s H C cl fp ▸ hg s H C cl fp) (fun s H C cl fp => et s H C cl fp ▸ ht s H C cl fp) (fun s H C cl fp => ei s H C cl fp ▸ hi1 s H C cl fp) (fun s H C cl fp => eg1 s H C cl fp ▸ hg1 s H C cl fp) (fun s H C cl fp => et1 s H C cl fp ▸ ht1 s H C cl fp)
    (fun s H C cl fp => ee s H C cl fp ▸ he s H C cl fp) hs hs1
end
/-! ### a walk over a tuple, a list, whatever is done in a turn -/
theorem walk_tup {K : PySem.W.Frag} {a : Addr} {xs : List V} {B : V → Hp → (Hp → Prop) → Prop} {H1 : Hp} {Qd : Hp → Prop} (Pv : Nat → Hp → Prop) (h0 : Pv 0 H1) (hl : ∀ i H, i ≤ xs.length → Pv i H → SqT K H a xs)
    (hs : ∀ i x H, xs[i]? = some x → Pv i H → B x H (Pv (i + 1))) (hd : ∀ H, Pv xs.length H → Qd H) :
    ∃ W : Nat → Nat → Hp → Prop, (∃ m, W 0 m H1) ∧ ∀ i m H, W i m H →
      ((Itt K a).stop i H ∧ Qd H) ∨ ((Itt K a).go i H ∧ ∃ Nx : Hp → Prop, (∀ H', Nx H' → ∃ m', m' < m ∧ W (i + 1) m' H') ∧ ∀ x H', (Itt K a).yld i H x H' → B x H' Nx) := by
  refine ⟨fun i m H => (m = xs.length - i ∧ i ≤ xs.length) ∧ Pv i H, ⟨xs.length, ⟨by omega, Nat.zero_le _⟩, h0⟩, ?_⟩
  rintro i m H ⟨⟨rfl, le⟩, p⟩
  have there := hl i H le p
  rcases Nat.lt_or_ge i xs.length with lt | ge
  · have item : xs[i]? = some xs[i] := List.getElem?_eq_getElem lt
    refine .inr ⟨⟨xs, xs[i], there, item⟩, Pv (i + 1), ?_, ?_⟩
    · exact fun H' p' => ⟨xs.length - (i + 1), by omega, ⟨rfl, lt⟩, p'⟩
    · rintro x H' ⟨rfl, y⟩
      exact hs i x _ (y xs there) p
  · have e : i = xs.length := by omega
    subst e
    refine .inl ⟨?_, hd H p⟩
    exact ⟨xs, there, Nat.le_refl _⟩


end My
namespace My
open PySem PySem.Spec PyProof.Rows L2 TL
/-! ### operators of an own class, by the promises of its methods -/
section
variable {X : Cx}
/-- the def at f, called with such values, keeps sp; E is what is wished if it raises -/
def Runs (X : Cx) (f : Addr) (sp : Sp) (E : XK) : Prop := ∀ (pins : List (Addr × Obj)) (σ : L2.St) (H : Hp) (s : Shared) (Q : VK) (us : List Value) (vs : List V), Inv X pins σ H s → Vals vs us → sp vs H Q E →
  wpAny (model X.prog X.w) X.A (call (.ref f) us) (EP X pins σ Q) X.xe s
/-- the same one built-in deeper -/
def Runs1 (X : Cx) (f : Addr) (sp : Sp) (E : XK) : Prop := ∀ (pins : List (Addr × Obj)) (σ : L2.St) (H : Hp) (s : Shared) (Q : VK) (us : List Value) (vs : List V), Inv X pins σ H s → Vals vs us → sp vs H Q E →
  wpAny (model X.prog X.w) X.A.in1 (call (.ref f) us) (EP X pins σ Q) X.xe s
variable {k : Nat} {f : Addr} {fd : FuncData} {ps : List Str} {sp : Sp} {E : XK} {CX : CXT} {C : Addr}
theorem Runs.ofG (F : FnOkG X.prog X.w X.K X.mg X.base CX k f fd ps sp) (room : Room k X.A) (still : X.A.guards = some []) (binds : Binds X.K fd ps []) (pass : Passes CX X E) : Runs X f sp E :=
  fun pins σ H s Q us vs I r h => run_fnG (dvs := []) F room still binds .nil pass I r (by rw [List.append_nil]; exact h)
theorem Runs.of (F : FnOk X.prog X.w X.K X.mg X.base CX k f fd ps sp) (room : Room k X.A) (binds : Binds X.K fd ps []) (pass : Passes CX X E) : Runs X f sp E :=
  fun pins σ H s Q us vs I r h => run_fn (dvs := []) F room binds .nil pass I r (by rw [List.append_nil]; exact h)
theorem Runs1.of (F : FnOk X.prog X.w X.K X.mg X.base CX k f fd ps sp) (room : Room (k + 1) X.A) (binds : Binds X.K fd ps []) (pass : Passes CX X E) : Runs1 X f sp E := by
  intro pins σ H s Q us vs I r h
  have len : (us ++ []).length = ps.length := by rw [List.append_nil, ← r.length]; exact F.len _ _ _ _ h
  have ran := F.run X.A.in1 X.stack s H ⟨us, []⟩ (us ++ []) vs Q E room.in1 I.env0.in1 (binds s us I.kIn len) (by rw [List.append_nil]; exact r) h
  refine wpAny_call (codeAny_mono ran ?_)
  intro r s' h
  match r, h with
  | .error e, h => exact pass pins σ H s e s' I h
  | .ok (.ret u), h => exact I.after h
  | .ok .next, h => exact False.elim h
  | .ok .brk, h => exact False.elim h
  | .ok .cont, h => exact False.elim h
theorem ep_back {pins : List (Addr × Obj)} {σ : L2.St} {Q : VK} {u : Value} {s' : Shared} (h : EP X pins σ Q u s') : PySem.W.CmpBack (EP X pins σ Q) u s' := by
  obtain ⟨v, H', I, r, q⟩ := h
  have no : u ≠ .notImplemented := fun z => by
    subst z
    cases v <;> first | (obtain ⟨_, z⟩ := r; exact nomatch z) | exact nomatch (show Value.notImplemented = _ from r)
  cases u <;> first | exact ⟨v, H', I, r, q⟩ | exact absurd rfl no
/-- an instance, as the library sees it -/
theorem inst_at {pins : List (Addr × Obj)} {σ : L2.St} {H : Hp} {s : Shared} {a dx : Addr} {fs : List (Str × V)} (I : Inv X pins σ H s) (h : H a = some (.ins C dx fs)) : ∃ od, PySem.W.InstAt s.heap a (PySem.W.instObj C dx) C (some od) := by
  obtain ⟨mA, O, _⟩ := ins_get I.hok h
  obtain ⟨od, J, _⟩ := O.look
  exact ⟨od, J⟩
/-- x op y, both of the class -/
def rOwn (C : Addr) (sp : Sp) (E : XK) : R2 := fun x y H Q => ∃ a dx fs b dx2 fs2, x = .ref a ∧ y = .ref b ∧ H a = some (.ins C dx fs) ∧ H b = some (.ins C dx2 fs2) ∧ sp [x, y] H Q E
theorem op_own {op : Operator} (R : Runs X f sp E) (first : PySem.W.selfFirst X.K C = true) (there : PySem.W.findIn X.K (.ref C) (PySem.dunder op.info.2) = some (some (.ref f))) (fn : PySem.W.isFn X.K (.ref f) = true) : OpR X (binaryOp op) (rOwn C sp E) := by
  intro pins s σ H x y u v Q I rx ry h
  obtain ⟨a, dx, fs, b, dx2, fs2, rfl, rfl, ha, hb, q⟩ := h
  cases rx
  cases ry
  obtain ⟨od, J⟩ := inst_at I ha
  obtain ⟨od2, J2⟩ := inst_at I hb
  obtain ⟨m, fr⟩ := I.fr
  refine PySem.W.binop_K fr I.ok.mod.kin J J2.type first there fn ?_
  exact wpAny_mono (R pins σ H s Q [.ref a, .ref b] [.ref a, .ref b] I (.cons rfl (.cons rfl .nil)) q) (fun _ _ z => ep_back z) fun _ _ z => z
theorem op_ownEq (R : Runs X f sp E) (room : X.A.units < cLine) (first : PySem.W.notFirst X.K C (.ref C) = true) (there : PySem.W.findIn X.K (.ref C) "__eq__" = some (some (.ref f))) (fn : PySem.W.isFn X.K (.ref f) = true) : OpR X (compareOp .Eq) (rOwn C sp E) := by
  intro pins s σ H x y u v Q I rx ry h
  obtain ⟨a, dx, fs, b, dx2, fs2, rfl, rfl, ha, hb, q⟩ := h
  cases rx
  cases ry
  obtain ⟨od, J⟩ := inst_at I ha
  obtain ⟨od2, J2⟩ := inst_at I hb
  obtain ⟨m, fr⟩ := I.fr
  refine PySem.W.cmp_K (op := .Eq) room fr I.ok.mod.kin J J2.type first there fn ?_
  exact wpAny_mono (R pins σ H s Q [.ref a, .ref b] [.ref a, .ref b] I (.cons rfl (.cons rfl .nil)) q) (fun _ _ z => ep_back z) fun _ _ z => z
/-- x != y where the class has __eq__ alone -/
def rOwnNe (C : Addr) (sp : Sp) (E : XK) : R2 := fun x y H Q => ∃ a dx fs b dx2 fs2, x = .ref a ∧ y = .ref b ∧ H a = some (.ins C dx fs) ∧ H b = some (.ins C dx2 fs2) ∧ sp [x, y] H (fun v H' => ∃ c, v = .bl c ∧ Q (.bl (!c)) H') E
theorem op_ownNe (R : Runs1 X f sp E) (room : X.A.units + 1 < cLine) (first : PySem.W.notFirst X.K C (.ref C) = true) (ne : PySem.W.findIn X.K (.ref C) "__ne__" = some (some (.builtin "object.__ne__"))) (under : PySem.W.subIn X.K (.ref C) (.type "object") = some true)
    (there : PySem.W.findIn X.K (.ref C) "__eq__" = some (some (.ref f))) (fn : PySem.W.isFn X.K (.ref f) = true) : OpR X (compareOp .NotEq) (rOwnNe C sp E) := by
  intro pins s σ H x y u v Q I rx ry h
  obtain ⟨a, dx, fs, b, dx2, fs2, rfl, rfl, ha, hb, q⟩ := h
  cases rx
  cases ry
  obtain ⟨od, J⟩ := inst_at I ha
  obtain ⟨od2, J2⟩ := inst_at I hb
  have K' := I.kIn
  have sub : PySem.W.Looks (model X.prog X.w) s.heap (isInstance (.ref a) (.type "object")) true := J.type.andThen (PySem.W.looks_subIn K' under)
  -- object.__ne__ asks __eq__ and turns the answer round
  have body : wpAny (model X.prog X.w) X.A (tryCompare (.ref a) "__ne__" (.ref b)) (fun r s' => ∃ w, r = some w ∧ EP X pins σ Q w s') X.xe s := by
    unfold tryCompare
    refine wpAny_bind ?_
    simp only [callSpecialIfBound?, bindSpecialIfBound?]
    refine wpAny_holding (wpAny_bind (wpAny_bind (wpAny_bind (J.type.here ((PySem.W.looks_findIn K' ne).here ?_)))))
    simp only [PySem.F.cmp_object.ne.bind]
    have fin : wpAny (model X.prog X.w) X.A (call (.builtin "object.__ne__") [.ref a, .ref b]) (fun w s' => EP X pins σ Q w s' ∧ w ≠ .notImplemented) X.xe s := by
      refine wpAny_call (codeAny_call_builtin PySem.F.cmp_object.ne.plain PySem.F.cmpEntry_ne (@PySem.W.check_slot (model X.prog X.w) _ _ s "object.__ne__" "object" "__ne__" (.ref a) [.ref b] [] _ PySem.F.cmpKind_ne PySem.F.cmpSplit_ne sub (PySem.F.cmpArgs_ne _ _) ?_))
      unfold Builtin.«object.__ne__»
      refine wpAny_bind (m := slotArgs "__ne__" 1 _) (wpAny_pure ?_)
      refine wpAny_bind (wpAny_cRoomFor (by show X.A.units + 1 < cLine; exact room) (wpAny_bind ?_))
      refine PySem.W.ifBound_K K' J there fn (wpAny_mono (R pins σ H s _ [.ref a, .ref b] [.ref a, .ref b] I (.cons rfl (.cons rfl .nil)) q) (fun w s' z => ?_) fun _ _ z => z)
      obtain ⟨v, H', I', r, c, rfl, q'⟩ := z
      cases r
      refine wpAny_bind (wpAny_truthy_bool ?_)
      exact wpAny_pure ⟨⟨.bl (!c), H', I', rfl, q'⟩, fun z => nomatch z⟩
    refine wpAny_bind (wpAny_askSetting (wpAny_ite ?_))
    split
    · refine wpAny_bind (wpAny_pure (wpAny_pure (wpAny_bind (wpAny_mono fin (fun w s' z => wpAny_pure ?_) fun _ _ z => z))))
      obtain ⟨z, no⟩ := z
      cases w <;> first | exact absurd rfl no | exact wpAny_pure ⟨_, rfl, z⟩
    · refine wpAny_tryCatch (wpAny_bind (wpAny_pure (wpAny_pure (wpAny_bind (wpAny_mono fin (fun w s' z => wpAny_pure ?_) fun _ _ z => z)))))
      obtain ⟨z, no⟩ := z
      cases w <;> first | exact absurd rfl no | exact wpAny_pure ⟨_, rfl, z⟩
  show wpAny (model X.prog X.w) X.A (richCompare .NotEq (.ref a) (.ref b)) _ _ _
  unfold richCompare
  simp only [oneThing_ref]
  refine wpAny_holding (wpAny_bind (wpAny_cRoomFor (by omega) ?_))
  refine wpAny_bind (J.type.here (wpAny_bind (J2.type.here ?_)))
  simp only [bne_self_eq_false, Bool.false_eq_true, if_false]
  refine wpAny_bind (wpAny_pure ?_)
  refine wpAny_bind (wpAny_mono body (fun r s' z => ?_) fun _ _ z => z)
  obtain ⟨w, rfl, z⟩ := z
  exact wpAny_pure z
end
/-! ### defs, methods, properties, makers that look at no guard, by their promises -/
structure CalN (P : Program) (w : World) (K : PySem.W.Frag) (mg : Str → Option Value) (base : Heap) (x : Str) (k : Nat) (ps : List Str) (sp : Sp) : Prop where
  ex : ∃ f fd, FnOk P w K mg base CX0 k f fd ps sp ∧ mg x = some (.ref f) ∧ PySem.W.keepIn K (.ref f) = true ∧ Binds K fd ps []
theorem CalN.of {P : Program} {w : World} {K : PySem.W.Frag} {mg : Str → Option Value} {base : Heap} {x q : Str} {k : Nat} {ps : List Str} {sp : Sp} {st : Stmt} {f : Addr} {fd : FuncData}
    (F : Fun K x q st f fd) (hm : mg x = some (.ref f)) (hb : Binds K fd ps []) (ok : FnOk P w K mg base CX0 k f fd ps sp) : CalN P w K mg base x k ps sp := ⟨f, fd, ok, hm, F.kp, hb⟩
theorem CalN.lift {P : Program} {w : World} {K : PySem.W.Frag} {mg : Str → Option Value} {base : Heap} {x : Str} {k : Nat} {ps : List Str} {sp : Sp} (c : CalN P w K mg base x k ps sp) : Cal P w K mg base x k ps sp := by
  obtain ⟨f, fd, ok, hm, kp, hb⟩ := c.ex
  exact ⟨f, fd, .lift ok, hm, kp, hb⟩
structure MetC (P : Program) (w : World) (K : PySem.W.Frag) (mg : Str → Option Value) (base : Heap) (C : Addr) (m : Str) (k : Nat) (ps : List Str) (sp : Sp) : Prop where
  ex : ∃ f fd, FnOk P w K mg base CX0 k f fd ps sp ∧ Meth K C m f ∧ Binds K fd ps []
structure PrpC (P : Program) (w : World) (K : PySem.W.Frag) (mg : Str → Option Value) (base : Heap) (C : Addr) (m : Str) (k : Nat) (ps : List Str) (sp : Sp) : Prop where
  ex : ∃ p g fd, FnOk P w K mg base CX0 k g fd ps sp ∧ PropOf K C m p g ∧ Binds K fd ps []
structure MakC (P : Program) (w : World) (K : PySem.W.Frag) (mg : Str → Option Value) (base : Heap) (C : Addr) (k : Nat) (ps : List Str) (sp : Sp) : Prop where
  ex : ∃ f fd, FnOk P w K mg base CX0 k f fd ps sp ∧ Mk K C f ∧ Binds K fd ps []
section
variable {X : Cx} {x m : Str} {k : Nat} {ps : List Str} {sp : Sp} {e o : Expr} {es : List Expr} {ta : TE} {t : TA} {p pos apos : Pos} {C : Addr}
theorem pe_callN (c : CalN X.prog X.w X.K X.mg X.base x k ps sp) (room : Room k X.A) (hg : Gl X x) (ha : PA X (e :: es) t) (hdb : (x == ("__debug__" : Str)) = false := by decide)
    (he : starEach (e :: es) X.env = (false, eval e X.env) :: starEach es X.env := by rfl) (hpl : (backTo pos (starEach es X.env)).any (·.1) = false := by rfl) :
    PE X (.Call (.Name x p) (e :: es) [] pos) (tCall sp [] E0 t) := by
  obtain ⟨f, fd, ok, hm, kp, hb⟩ := c.ex
  exact pe_call ok room hg hm kp hb .nil pass0 ha hdb he hpl
theorem pe_methC {pl : Sem Bool} (c : MetC X.prog X.w X.K X.mg X.base C m k ps sp) (cls : Cls X.K C) (room : Room k X.A) (ho : PE X o ta) (ha : PA X (e :: es) t)
    (hst : starEach (e :: es) X.env = (false, eval e X.env) :: starEach es X.env := by rfl) (hpl : (backTo pos (starEach es X.env)).any (·.1) = false := by rfl)
    (ht : eval (.Call (.Attribute o m apos) (e :: es) [] pos) X.env = (do
      let ov ← eval o X.env
      standAt apos.atName
      let (f, first) ← holding [ov] (getMethod ov m pl)
      callWith pos f first (backTo pos (starEach (e :: es) X.env)) (backToKw pos (keywordEach [] X.env))) := by rfl) :
    PE X (.Call (.Attribute o m apos) (e :: es) [] pos) (tMeth C m sp [] E0 ta t) := by
  obtain ⟨f, fd, ok, hm, hb⟩ := c.ex
  exact pe_meth ho cls hm ok room hb .nil pass0 ha hst hpl ht
theorem pe_propC (c : PrpC X.prog X.w X.K X.mg X.base C m k ps sp) (cls : Cls X.K C) (room : Room (k + 1) X.A) (he : PE X e ta) (hab : attributeBase e m X.env (eval e X.env) = eval e X.env := by rfl) :
    PE X (.Attribute e m pos) (tProp C sp [] E0 ta) := by
  obtain ⟨q, g, fd, ok, hp, hb⟩ := c.ex
  exact pe_prop he cls hp ok room hb .nil pass0 hab
theorem pe_makeC (c : MakC X.prog X.w X.K X.mg X.base C k ps sp) (room : Room (k + 1) X.A) (hg : Gl X x) (hm : X.mg x = some (.ref C)) (ha : PA X (e :: es) t) (hdb : (x == ("__debug__" : Str)) = false := by decide)
    (he : starEach (e :: es) X.env = (false, eval e X.env) :: starEach es X.env := by rfl) (hpl : (backTo pos (starEach es X.env)).any (·.1) = false := by rfl) :
    PE X (.Call (.Name x p) (e :: es) [] pos) (tMake C sp [] E0 t) := by
  obtain ⟨f, fd, ok, M, hb⟩ := c.ex
  exact pe_make M ok room hg hm hb .nil pass0 ha hdb he hpl
theorem op_ownC {op : Operator} (c : MetC X.prog X.w X.K X.mg X.base C m k ps sp) (room : Room k X.A) (first : PySem.W.selfFirst X.K C = true) (name : PySem.dunder op.info.2 = m := by rfl) : OpR X (binaryOp op) (rOwn C sp E0) := by
  obtain ⟨f, fd, ok, M, hb⟩ := c.ex
  exact op_own (Runs.of ok room hb pass0) first (name ▸ M.at_) M.fn
theorem op_eqC (c : MetC X.prog X.w X.K X.mg X.base C "__eq__" k ps sp) (room : Room k X.A) (first : PySem.W.notFirst X.K C (.ref C) = true) : OpR X (compareOp .Eq) (rOwn C sp E0) := by
  obtain ⟨f, fd, ok, M, hb⟩ := c.ex
  exact op_ownEq (Runs.of ok room hb pass0) room.units0 first M.at_ M.fn
theorem op_neC (c : MetC X.prog X.w X.K X.mg X.base C "__eq__" k ps sp) (room : Room (k + 1) X.A) (first : PySem.W.notFirst X.K C (.ref C) = true) (ne : PySem.W.findIn X.K (.ref C) "__ne__" = some (some (.builtin "object.__ne__")))
    (under : PySem.W.subIn X.K (.ref C) (.type "object") = some true) : OpR X (compareOp .NotEq) (rOwnNe C sp E0) := by
  obtain ⟨f, fd, ok, M, hb⟩ := c.ex
  exact op_ownNe (Runs1.of ok room hb pass0) (by have := room.units; omega) first ne under M.at_ M.fn
end
/-- a property that hands out a field -/
theorem _root_.L2.Fun.getter {P : Program} {w : World} {K : PySem.W.Frag} {mg : Str → Option Value} {base : Heap} {x qual g : Str} {st : Stmt} {f C : Addr} {fd : FuncData} {N : List Str} {p1 p2 p3 : Pos} (F : Fun K x qual st f fd)
    (S : FnScope N ["self"] (defScope st)) (c : Cls K C) (n : NoAttr K C g) (hN : N[0]? = some ("self" : Str) := by rfl) (body : defBody st = [.Return (some (.Attribute (.Name "self" p1) g p2)) p3] := by rfl) : FnOk P w K mg base CX0 1 f fd ["self"] (getSp C g) := by
  obtain ⟨oc, od, kV, doc, pm, an, cv, ct, osl, rfl, found, isCode⟩ := F.ex
  exact fn_getter found isCode S hN body c n
section
variable {X : Cx} {x : Str} {k : Nat} {ps : List Str} {sp : Sp} {e : Expr} {es : List Expr} {tf : TE} {t : TA} {p pos : Pos} {C : Addr}
/-- x(e, ..), x a name of the def that holds the class -/
def tMakeV (C : Addr) (sp : Sp) (tf : TE) (t : TA) : TE := fun σ H Q => tf σ H fun v H1 => v = .ref C ∧ tMake C sp [] E0 t σ H1 Q
theorem pe_makeV (c : MakC X.prog X.w X.K X.mg X.base C k ps sp) (room : Room (k + 1) X.A) (hf : PE X (.Name x p) tf) (ha : PA X (e :: es) t)
    (he : starEach (e :: es) X.env = (false, eval e X.env) :: starEach es X.env := by rfl) (hpl : (backTo pos (starEach es X.env)).any (·.1) = false := by rfl) :
    PE X (.Call (.Name x p) (e :: es) [] pos) (tMakeV C sp tf t) := by
  obtain ⟨f, fd, ok, M, hb⟩ := c.ex
  refine ⟨fun pins s σ H Q I h => wpAny_Call_Name_kw (thn (hf.run pins s σ H _ I h) fun g s0 got => ?_)⟩
  obtain ⟨v, H0, I0, r0, rfl, q0⟩ := got
  cases r0
  exact PySem.W.callWith_K (h₀ := X.base) I0.ok.mod.kin M.kp (thn (ha.run pos pins s0 σ H0 _ I0 q0) fun us s1 ⟨vs, H1, I1, r, q⟩ => ⟨I1.kIn, run_make M ok room hb .nil pass0 I1 r q⟩) he hpl
end

/-! ### max of a list of ints, with a default -/
section
variable {prog : Program} {w : World} {A : Around} {E : Value → Shared → Prop} {s : Shared}
theorem gt_pair {a b : Int} {t u : Tok} {Q : Value → Shared → Prop} (h : Q (.bool (decide (a > b))) s) : wpAny (model prog w) A (richCompare .Gt (.int a t) (.int b u)) Q E s := by
  refine CmpOf.ints_gt (P := fun i v => (i = 0 ∧ v = .int a t) ∨ (i = 1 ∧ v = .int b u)) (fun i => if i = 0 then a else b) ?_ 0 1 _ _ s Q E (.inl ⟨rfl, rfl⟩) (.inr ⟨rfl, rfl⟩) h
  rintro i v (⟨rfl, rfl⟩ | ⟨rfl, rfl⟩)
  · exact ⟨t, rfl⟩
  · exact ⟨u, rfl⟩
/-- the greatest of b and of f j, .., k of them -/
def topOf (f : Nat → Int) : Int → Nat → Nat → Int
  | b, _, 0 => b
  | b, j, k + 1 => topOf f (if f j > b then f j else b) (j + 1) k
theorem topOf_ge (f : Nat → Int) : ∀ (k j : Nat) (b : Int), b ≤ topOf f b j k ∧ ∀ i, i < k → f (j + i) ≤ topOf f b j k
  | 0, _, b => ⟨Int.le_refl _, fun i h => absurd h (Nat.not_lt_zero _)⟩
  | k + 1, j, b => by
    obtain ⟨h1, h2⟩ := topOf_ge f k (j + 1) (if f j > b then f j else b)
    have h0 : b ≤ (if f j > b then f j else b) ∧ f j ≤ (if f j > b then f j else b) := by
      by_cases h : f j > b
      · rw [if_pos h]
        omega
      · rw [if_neg h]
        omega
    refine ⟨Int.le_trans h0.1 h1, fun i hi => ?_⟩
    cases i with
    | zero => exact Int.le_trans h0.2 h1
    | succ i =>
      have := h2 i (by omega)
      rw [show j + 1 + i = j + (i + 1) by omega] at this
      exact this
theorem topOf_mem (f : Nat → Int) : ∀ (k j : Nat) (b : Int), topOf f b j k = b ∨ ∃ i, i < k ∧ topOf f b j k = f (j + i)
  | 0, _, _ => .inl rfl
  | k + 1, j, b => by
    show topOf f (if f j > b then f j else b) (j + 1) k = b ∨ _
    rcases topOf_mem f k (j + 1) (if f j > b then f j else b) with h | ⟨i, hi, h⟩
    · by_cases q : f j > b
      · rw [if_pos q] at h
        exact .inr ⟨0, Nat.succ_pos k, by show topOf f (if f j > b then f j else b) (j + 1) k = f j; rw [if_pos q]; exact h⟩
      · rw [if_neg q] at h
        exact .inl (by rw [if_neg q]; exact h)
    · exact .inr ⟨i + 1, Nat.succ_lt_succ hi, by show topOf f (if f j > b then f j else b) (j + 1) k = f (j + (i + 1)); rw [h]; congr 1; omega⟩
def listObj (vs : Array Value) (c : Nat) : Obj := { cls := .type "list", dict := none, data := .seq vs c, slots := #[] }
variable {R : Result → Shared → Prop} {I best : Addr} {fp wr : List Addr} {n : Nat} {P : Nat → Value → Prop} {St : Nat → Heap → Prop}
theorem max_name : (toString "max" ++ toString ".loop" : String) = "max.loop" := by decide
/-- behind the first item -/
theorem maxd_rest (W : Walks prog w A.in1 I fp wr n P St) (f : Nat → Int) (num : ∀ j v, P j v → ∃ t, v = .int (f j) t) (apart : best ∉ fp) (kw : List (Str × Value)) :
    ∀ (k j : Nat) (t : Shared) (b : Int) (u : Tok) (c : Nat), n = j + k → St j t.heap → t.heap.get? best = some (listObj #[.int b u, .int b u] c) →
      (∀ u' h' tk, (∀ a o, a ∉ wr → a ≠ best → t.heap.get? a = some o → h'.get? a = some o) → R (.ok (.ret (.int (topOf f b j k) u'))) { t with heap := h', toks := tk }) →
      codeAny (model prog w) A (.builtin "max.loop" ⟨[.ref I, .none, .ref best], kw⟩) R t
  | 0, j, t, b, u, c, e, st, there, fin => by
    have notWr : best ∉ wr := fun z => apart (W.sub _ z)
    refine codeAny_builtin PySem.F.entry_max_loop ?_
    rw [Around.under_plainId PySem.F.plain_max_loop _]
    show wpAny _ A.in1 (seqItems? (.ref best) >>= _) _ _ t
    refine wpAny_bind (wpAny_seqItems there
      rfl ?_)
    show wpAny _ A.in1 (tryCatch (pyNext (.ref I)) _ >>= _) _ _ t
    have st' : St n t.heap := by rw [e]; exact st
    refine wpAny_bind (wpAny_tryCatch (W.done t _ _ st' fun h1 tk1 old => ?_))
    have there1 := old best _ notWr there
    show wpAny _ A.in1 (updateSeq best (fun _ => #[]) >>= _) _ _ _
    refine wpAny_bind (wpAny_updateSeq there1 rfl (wpAny_bind
      (wpAny_letGo (wpAny_pure ?_))))
    exact fin u _ tk1 fun a o na nb q => (Heap.get?_update_other _ _ (Ne.symm nb)).trans (old a o na q)
  | k + 1, j, t, b, u, c, e, st, there, fin => by
    have notWr : best ∉ wr := fun z => apart (W.sub _ z)
    refine codeAny_builtin PySem.F.entry_max_loop ?_
    rw [Around.under_plainId PySem.F.plain_max_loop _]
    show wpAny _ A.in1 (seqItems? (.ref best) >>= _) _ _ t
    refine wpAny_bind (wpAny_seqItems there
      rfl ?_)
    show wpAny _ A.in1 (tryCatch (pyNext (.ref I)) _ >>= _) _ _ t
    refine wpAny_bind (wpAny_tryCatch (W.item j t _ _ (by omega) st fun v h1 tk1 pv st1 old => ?_))
    obtain ⟨tv, rfl⟩ := num j v pv
    have there1 := old best _ notWr there
    show wpAny _ A.in1 (tryCatch (holding [Value.int (f j) tv, Value.int (f j) tv] (richCompare .Gt (.int (f j) tv) (.int b u) >>= _)) _ >>= _) _ _ _
    refine wpAny_bind (wpAny_tryCatch (wpAny_holding (wpAny_bind (gt_pair ?_))))
    refine wpAny_bind (wpAny_holding (wpAny_truthy_bool ?_))
    refine wpAny_bind (wpAny_letGo (wpAny_pure ?_))
    by_cases gt : f j > b
    · have top : topOf f b j (k + 1) = topOf f (f j) (j + 1) k := by
        show topOf f (if f j > b then f j else b) (j + 1) k = _
        rw [if_pos gt]
      rw [decide_eq_true gt]
      simp only [if_true]
      refine wpAny_bind (wpAny_updateSeq there1 rfl (wpAny_bind
        (wpAny_letGo ?_)))
      rw [max_name]
      refine wpAny_pure ⟨plainId_quiet PySem.F.plain_max_loop _, maxd_rest W f num apart kw k (j + 1) _ (f j) tv _ (by omega) (W.frame _ _ _ st1 fun a na o q => ?_) (Heap.get?_update_self _ there1 rfl) fun u' h' tk later => ?_⟩
      · exact (Heap.get?_update_other _ _ (fun z : best = a => apart (by rw [z]; exact na))).trans q
      · rw [← top]
        exact fin u' h' tk fun a o na nb q => later a o na nb ((Heap.get?_update_other _ _ (Ne.symm nb)).trans (old a o na q))
    · have top : topOf f b j (k + 1) = topOf f b (j + 1) k := by
        show topOf f (if f j > b then f j else b) (j + 1) k = _
        rw [if_neg gt]
      rw [decide_eq_false gt]
      simp only [Bool.false_eq_true, if_false]
      refine wpAny_bind (wpAny_letGo ?_)
      rw [max_name]
      refine wpAny_pure ⟨plainId_quiet PySem.F.plain_max_loop _, maxd_rest W f num apart kw k (j + 1) _ b u c (by omega) st1 there1 fun u' h' tk later => ?_⟩
      rw [← top]
      exact fin u' h' tk fun a o na nb q => later a o na nb (old a o na q)
theorem args_maxd (a d : Value) : argsOk "max" ⟨[a], [("default", d)]⟩ := by
  unfold argsOk
  kernel_rfl
/-- the loop from its start -/
theorem maxd_loop (W : Walks prog w A.in1 I fp wr n P St) (f : Nat → Int) (num : ∀ j v, P j v → ∃ t, v = .int (f j) t) (apart : best ∉ fp) {z : Int} {tz : Tok} {kn : Str} (t : Shared) (c : Nat) (st : St 0 t.heap) (there : t.heap.get? best = some (listObj #[] c))
    (fin : ∀ m u h' tk, (∀ a o, a ∉ wr → a ≠ best → t.heap.get? a = some o → h'.get? a = some o) → (n = 0 → m = z) → (0 < n → (∃ i, i < n ∧ m = f i) ∧ ∀ i, i < n → f i ≤ m) → R (.ok (.ret (.int m u))) { t with heap := h', toks := tk }) :
    codeAny (model prog w) A (.builtin "max.loop" ⟨[.ref I, .none, .ref best], [(kn, .int z tz)]⟩) R t := by
  have notWr : best ∉ wr := fun z => apart (W.sub _ z)
  refine codeAny_builtin PySem.F.entry_max_loop ?_
  rw [Around.under_plainId PySem.F.plain_max_loop _]
  show wpAny _ A.in1 (seqItems? (.ref best) >>= _) _ _ t
  refine wpAny_bind (wpAny_seqItems there
    rfl ?_)
  show wpAny _ A.in1 (tryCatch (pyNext (.ref I)) _ >>= _) _ _ t
  cases e : n with
  | zero =>
    subst e
    refine wpAny_bind (wpAny_tryCatch (W.done t _ _ st fun h1 tk1 old => ?_))
    refine wpAny_bind (wpAny_rule (wpAny_pure ?_))
    exact fin z tz h1 tk1 (fun a o na _ q => old a o na q) (fun _ => rfl) fun h => absurd h (Nat.lt_irrefl 0)
  | succ k =>
    refine wpAny_bind (wpAny_tryCatch (W.item 0 t _ _ (by omega) st fun v h1 tk1 pv st1 old => ?_))
    obtain ⟨tv, rfl⟩ := num 0 v pv
    have there1 := old best _ notWr there
    show wpAny _ A.in1 (updateSeq best (fun _ => #[Value.int (f 0) tv, Value.int (f 0) tv]) >>= _) _ _ _
    refine wpAny_bind (wpAny_updateSeq there1
      rfl ?_)
    rw [max_name]
    refine wpAny_pure ⟨plainId_quiet PySem.F.plain_max_loop _, maxd_rest W f num apart [(kn, .int z tz)] k 1 _ (f 0) tv _ (by omega) (W.frame _ _ _ st1 fun a na o q => ?_) (Heap.get?_update_self _ there1 rfl) fun u' h' tk later => ?_⟩
    · exact (Heap.get?_update_other _ _ (fun z : best = a => apart (by rw [z]; exact na))).trans q
    · refine fin _ u' h' tk (fun a o na nb q => later a o na nb ((Heap.get?_update_other _ _ (Ne.symm nb)).trans (old a o na q))) (fun h => by omega) fun _ => ?_
      obtain ⟨g1, g2⟩ := topOf_ge f k 1 (f 0)
      refine ⟨?_, fun i hi => ?_⟩
      · rcases topOf_mem f k 1 (f 0) with h | ⟨i, hi, h⟩
        · exact ⟨0, by omega, h⟩
        · exact ⟨1 + i, by omega, h⟩
      · cases i with
        | zero => exact g1
        | succ i =>
          have := g2 i (by omega)
          rw [show 1 + i = i + 1 by omega] at this
          exact this
theorem ints_get : ∀ {its : List Value} {ns : List Int}, IntsAre its ns → ∀ (j : Nat) (v : Value), its[j]? = some v → ∃ t, v = .int (ns.getD j 0) t
  | _, _, .nil, j, v, h => by simp at h
  | _, _, .cons k t r, 0, v, h => ⟨t, (Option.some.inj h).symm⟩
  | _, _, .cons k t r, j + 1, v, h => ints_get r j v h
theorem call_maxd {l : Addr} {its : List Value} {ns : List Int} {z : Int} {tz : Tok} {Q : Value → Shared → Prop} (calm : A.handled = none) (hl : s.heap.IsList l its.toArray) (nums : IntsAre its ns)
    (fin : ∀ m u h' tk, (∀ a o, s.heap.get? a = some o → h'.get? a = some o) → (ns = [] → m = z) → (ns ≠ [] → m ∈ ns ∧ ∀ y ∈ ns, y ≤ m) → Q (.int m u) { s with heap := h', toks := tk }) :
    wpAny (model prog w) A (call (.builtin "max") [.ref l] [("default", .int z tz)]) Q E s := by
  have ok : checkBuiltinCall "max" ⟨[.ref l], [("default", .int z tz)]⟩ = pure () := by
    simp only [checkBuiltinCall, PySem.F.kind_max]
    have h := args_maxd (.ref l) (.int z tz)
    cases e : Manifest.signature? "max" with
    | none => rfl
    | some sig =>
      simp only [argsOk, e] at h
      exact h
  refine wpAny_call (codeAny_call_builtin PySem.F.plain_max PySem.F.entry_max ?_)
  rw [ok]
  refine wpAny_pure ?_
  show wpAny _ A.in1 (Builtin.Builtins.bindParams "max" ["key", "default"] 0 ⟨[], [("default", .int z tz)]⟩ >>= _) _ _ s
  refine wpAny_bind (wpAny_of_eq (show Builtin.Builtins.bindParams "max" ["key", "default"] 0 ⟨[], [("default", .int z tz)]⟩ = pure [none, some (.int z tz)] from rfl) ?_)
  refine wpAny_bind (wpAny_pure ?_)
  have lt : l < s.heap.objs.size := by
    obtain ⟨_, e, _⟩ := hl
    exact Heap.lt_size e
  have len := nums.length
  refine wpAny_bind (wpAny_pyIter_list hl ?_)
  refine wpAny_bind (wpAny_newObj_type ?_)
  rw [max_name]
  have W := Walks.list (prog := prog) (w := w) (A := A.in1) calm s.heap.objs.size l (Nat.ne_of_lt lt) its.toArray
  refine wpAny_pure ⟨plainId_quiet PySem.F.plain_max_loop _, ?_⟩
  refine maxd_loop W (fun i => ns.getD i 0) (fun j v hv => ?_) ?_ _ 0 ?_ (Heap.get?_push_size _ rfl) fun m u h' tk old h0 h1 => ?_
  · exact ints_get nums j v (by simpa using hv)
  · intro hm
    simp only [List.mem_cons, List.not_mem_nil, or_false, Heap.size_push] at hm
    rcases hm with h | h
    · exact absurd h (Nat.succ_ne_self _)
    · exact absurd h (Nat.ne_of_gt (Nat.lt_succ_of_lt lt))
  · exact ⟨⟨_, Heap.get?_push_of_some _ (Heap.get?_push_size _ rfl), rfl, rfl⟩, (hl.push _).push _⟩
  · have size : its.toArray.size = ns.length := by rw [List.size_toArray]; exact len
    refine fin m u h' tk (fun a o q => ?_) (fun e => h0 (by rw [size, e]; rfl)) fun ne => ?_
    · have la : a < s.heap.objs.size := Heap.lt_size q
      refine old a o (fun hm => ?_) (fun e => ?_) (Heap.get?_push_of_some _ (Heap.get?_push_of_some _ q))
      · rw [List.mem_singleton.mp hm] at la
        exact absurd la (Nat.lt_irrefl _)
      · rw [e] at la
        exact absurd (Nat.lt_of_lt_of_le la (by rw [Heap.size_push]; exact Nat.le_succ _)) (Nat.lt_irrefl _)
    · obtain ⟨⟨i, hi, e⟩, top⟩ := h1 (by rw [size]; exact List.length_pos_iff.mpr ne)
      rw [size] at hi top
      refine ⟨?_, fun y hy => ?_⟩
      · rw [e, List.getD_eq_getElem?_getD, List.getElem?_eq_getElem hi]
        exact List.getElem_mem hi
      · obtain ⟨j, hj, e⟩ := List.getElem_of_mem hy
        have := top j hj
        rw [List.getD_eq_getElem?_getD, List.getElem?_eq_getElem hj] at this
        rw [← e]
        exact this
end
section
variable {X : Cx} {e d : Expr} {ta td : TE} {p pos kpos : Pos}
/-- max(e, default=d) -/
def tMaxD (K : PySem.W.Frag) (ta td : TE) : TE := fun σ H Q => ta σ H fun x H1 => tCons td tNil σ H1 fun vs H2 => ∃ y, vs = [y] ∧ ∃ (a : Addr) (ns : List Int) (z : Int), x = .ref a ∧ y = .int z ∧ SqL K H2 a (ns.map V.int) ∧
  ∀ m, (ns = [] → m = z) → (ns ≠ [] → m ∈ ns ∧ ∀ y ∈ ns, y ≤ m) → Q (.int m) H2
theorem pe_maxD (calm : X.calm = true) (hg : Gl X "max") (hm : X.mg "max" = none) (ha : PE X e ta) (hd : PE X d td) (hs : starEach [e] X.env = (false, eval e X.env) :: starEach [] X.env := by rfl)
    (he : backTo pos (starEach [e] X.env) = (false, eval e X.env) :: backTo pos (starEach [] X.env) := by rfl) (hp : (backTo pos (starEach [e] X.env)).any (·.1) = false := by rfl)
    (hall : (backToKw pos (keywordEach [⟨some "default", d, kpos⟩] X.env)).all (·.1.isSome) = true := by rfl) (hkw : (backToKw pos (keywordEach [⟨some "default", d, kpos⟩] X.env)).any (·.1.isNone) = false := by rfl)
    (hn : (backToKw pos (keywordEach [⟨some "default", d, kpos⟩] X.env)).filterMap (·.1) = [("default" : Str)] := by rfl) :
    PE X (.Call (.Name "max" p) [e] [⟨some "default", d, kpos⟩] pos) (tMaxD X.K ta td) := by
  refine ⟨fun pins s σ H Q I h => ?_⟩
  refine wpAny_Call_Name_kw (ld_blt I hg hm (show bootBuiltins "max" = some (.builtin "max") by decide +kernel) ?_)
  refine PyProof.Rows.callWith_kw (id := "max") ?_ he hp hall hkw
  rw [hs]
  show wpAny _ _ (spliced ((false, eval e X.env) :: backTo pos (starEach [] X.env))) _ _ s
  refine Calls.spliced_cons (thn (ha.run pins s σ H _ I h) fun u s1 ⟨x, H1, I1, r1, q1⟩ => ?_)
  refine Calls.spliced_nil ?_
  refine thn ((pk_cons (nm := some "default") (kpos := kpos) hd (pk_nil (X := X))).run pos pins s1 σ H1 (fun vs H2 => ∃ y, vs = [y] ∧ ∃ (a : Addr) (ns : List Int) (z : Int), x = .ref a ∧ y = .int z ∧ SqL X.K H2 a (ns.map V.int) ∧
    ∀ m, (ns = [] → m = z) → (ns ≠ [] → m ∈ ns ∧ ∀ y ∈ ns, y ≤ m) → Q (.int m) H2) I1 q1) ?_
  · rintro us s2 ⟨vs, H2, I2, rv, y, rfl, a, ns, z, rfl, rfl, hl, q⟩
    rw [hn]
    cases rv with
    | cons r2 r3 =>
      cases r3
      obtain ⟨tz, rfl⟩ := r2
      cases r1
      obtain ⟨its, ri, pl, _⟩ := I2.list hl
      show wpAny _ _ (call (.builtin "max") [.ref a] [("default", .int z tz)]) _ _ _
      exact call_maxd (I2.ok.hd calm) pl.isList ri.ints fun m u h' tk old h0 h1 => ⟨.int m, H2, I2.kept old, ⟨u, rfl⟩, q m h0 h1⟩
end


end My
namespace My
open PySem PySem.Spec PyProof.Rows L2 TL
/-! ### len, [], an operator with an int, of an own class; classmethods -/
section
variable {X : Cx} {k : Nat} {f C : Addr} {ps : List Str} {sp : Sp} {E : XK} {e o b : Expr} {es : List Expr} {x m : Str} {ta tb : TE} {t : TA} {p pos apos : Pos}
def rLenO (C : Addr) (sp : Sp) : List V → Hp → VK → Prop := fun xs H Q => ∃ a dx fs, xs = [.ref a] ∧ H a = some (.ins C dx fs) ∧ sp [.ref a] H (fun v H' => ∃ n : Nat, v = .int n ∧ (n : Int) < 2 ^ 63 ∧ Q (.int n) H') E0
theorem call_lenO (c : MetC X.prog X.w X.K X.mg X.base C "__len__" k ps sp) (room : Room (k + 1) X.A) : CallR X (.builtin "len") (rLenO C sp) := by
  obtain ⟨f, fd, ok, M, hb⟩ := c.ex
  intro pins s σ H xs us Q I r h
  obtain ⟨a, dx, fs, rfl, ha, q⟩ := h
  rw [Vals.ref1 r]
  obtain ⟨od, J⟩ := inst_at I ha
  obtain ⟨mm, fr⟩ := I.fr
  refine PySem.W.len_K fr I.ok.mod.kin J M.at_ M.fn ?_
  refine wpAny_mono (Runs1.of ok room hb pass0 pins σ H s _ [.ref a] [.ref a] I (.cons rfl .nil) q) (fun u s' z => ?_) fun _ _ z => z
  obtain ⟨v, H', I', rv, n, rfl, hn, q'⟩ := z
  obtain ⟨tk, rfl⟩ := rv
  exact ⟨⟨Int.natCast_nonneg n, hn⟩, .int n, H', I'.tok _, ⟨_, rfl⟩, q'⟩
def rIxO (C : Addr) (sp : Sp) : R2 := fun x y H Q => ∃ a dx fs, x = .ref a ∧ H a = some (.ins C dx fs) ∧ sp [x, y] H Q E0
theorem pe_ixO (c : MetC X.prog X.w X.K X.mg X.base C m k ps sp) (room : Room (k + 1) X.A) (ha : PE X o ta) (hi : PE X b tb) (fn : ∀ f, Meth X.K C m f → PySem.W.fnIn X.K f = true) (hm : m = "__getitem__" := by rfl)
    (hsl : ∀ (x : Addr) (i : Value), subscripted b true (.ref x) i = runValue (.builtin "lifetime.subscript" ⟨[.ref x, i], []⟩) := by intro _ _; with_unfolding_all rfl) : PE X (.Subscript o b pos) (tOp (rIxO C sp) ta tb) := by
  subst hm
  obtain ⟨f, fd, ok, M, hb⟩ := c.ex
  refine ⟨fun pins s σ H Q I h => ?_⟩
  refine Subscript_ (binT ha hi I h fun v u s2 x y H2 I2 rx ry q => ?_)
  obtain ⟨a, dx, fs, rfl, hx, q⟩ := q
  cases rx
  obtain ⟨od, J⟩ := inst_at I2 hx
  obtain ⟨mm, fr⟩ := I2.fr
  exact PySem.W.sub_K fr I2.ok.mod.kin J M.at_ (fn f M) M.fn (Runs1.of ok room hb pass0 pins σ H2 s2 _ [.ref a, u] [.ref a, y] I2 (.cons rfl (.cons ry .nil)) q) (hsl a u)
/-- x op i, i an int -/
structure OwnI (K : PySem.W.Frag) (C : Addr) (op : Operator) : Prop where
  first : PySem.W.selfFirst K C = true
  rev : ∃ rc, PySem.W.findIn K (.ref C) (PySem.dunderR op.info.2) = some rc ∧ (rc = none ∨ ∃ g : Addr, rc = some (.ref g))
  i1 : ∃ fo, PySem.W.findIn K (.type "int") (PySem.dunder op.info.2) = some fo
  i2 : ∃ ro, PySem.W.findIn K (.type "int") (PySem.dunderR op.info.2) = some ro
  sub : PySem.W.subIn K (.type "int") (.ref C) = some false
def rOwnI (C : Addr) (sp : Sp) : R2 := fun x y H Q => ∃ a dx fs, ∃ i : Int, x = .ref a ∧ y = .int i ∧ H a = some (.ins C dx fs) ∧ sp [x, y] H Q E0
theorem op_ownI {op : Operator} (c : MetC X.prog X.w X.K X.mg X.base C m k ps sp) (room : Room k X.A) (O : OwnI X.K C op) (name : PySem.dunder op.info.2 = m := by rfl) : OpR X (binaryOp op) (rOwnI C sp) := by
  obtain ⟨f, fd, ok, M, hb⟩ := c.ex
  intro pins s σ H x y u v Q I rx ry h
  obtain ⟨a, dx, fs, i, rfl, rfl, ha, q⟩ := h
  cases rx
  obtain ⟨tk, rfl⟩ := ry
  obtain ⟨od, J⟩ := inst_at I ha
  obtain ⟨mm, fr⟩ := I.fr
  obtain ⟨first, ⟨rc, r1, r2⟩, ⟨fo, i1⟩, ⟨ro, i2⟩, sub⟩ := O
  refine PySem.W.ksp_binT fr I.ok.mod.kin J (T := "int") rfl first (name ▸ M.at_) M.fn r1 r2 i1 i2 sub ?_
  exact wpAny_mono (Runs.of ok room hb pass0 pins σ H s Q [.ref a, .int i tk] [.ref a, .int i] I (.cons rfl (.cons ⟨tk, rfl⟩ .nil)) q) (fun _ _ z => ep_back z) fun _ _ z => z
/-- a classmethod by its promise -/
structure CmtC (P : Program) (w : World) (K : PySem.W.Frag) (mg : Str → Option Value) (base : Heap) (C : Addr) (m : Str) (k : Nat) (ps : List Str) (sp : Sp) : Prop where
  ex : ∃ f fd mc p, FnOk P w K mg base CX0 k f fd ps sp ∧ ClX.CRead K C mc ∧ ClX.CMet K C mc m p f ∧ Binds K fd ps []
theorem FnR.ofC {P : Program} {w : World} {K : PySem.W.Frag} {mg : Str → Option Value} {base : Heap} {k : Nat} {f : Addr} {fd : FuncData} {ps : List Str} {sp : Sp} (ok : FnOk P w K mg base CX0 k f fd ps sp) (hb : Binds K fd ps []) : FnR P w K mg base CX0 k f sp := by
  intro A outer s H us vs Q E hr e0 r h
  have there : K.In s.heap := e0.mod.kin.keeps (fun b o e => (e0.bs b o e).1)
  have len : (us ++ []).length = ps.length := by rw [List.append_nil, ← r.length]; exact ok.len _ _ _ _ h
  have hv := hb s us there len
  rw [List.append_nil] at hv
  exact ok.run A outer s H ⟨us, []⟩ us vs Q E hr e0 hv r h
theorem pe_cmethC {pl : Sem Bool} (c : CmtC X.prog X.w X.K X.mg X.base C m k ps sp) (room : Room k X.A) (ho : PE X o ta) (ha : PA X (e :: es) t)
    (hst : starEach (e :: es) X.env = (false, eval e X.env) :: starEach es X.env := by rfl) (hpl : (backTo pos (starEach es X.env)).any (·.1) = false := by rfl)
    (ht : eval (.Call (.Attribute o m apos) (e :: es) [] pos) X.env = (do
      let ov ← eval o X.env
      standAt apos.atName
      let (f, first) ← holding [ov] (getMethod ov m pl)
      callWith pos f first (backTo pos (starEach (e :: es) X.env)) (backToKw pos (keywordEach [] X.env))) := by rfl) :
    PE X (.Call (.Attribute o m apos) (e :: es) [] pos) (ClX.tCMeth C sp E0 ta t) := by
  obtain ⟨f, fd, mc, p, ok, hr, hm, hb⟩ := c.ex
  exact ClX.pe_cmeth ho hr hm (FnR.ofC ok hb) room pass0 ha hst hpl ht
end


end My
namespace My
open PySem PySem.Spec PyProof.Rows L2 TL
/-! ### == of an instance and anything; str of an instance -/
section
variable {X : Cx} {k : Nat} {f C : Addr} {ps : List Str} {sp : Sp} {E : XK}
def rOwnX (K : PySem.W.Frag) (C : Addr) (sp : Sp) (E : XK) : R2 := fun x y H Q => ∃ a dx fs t0, x = .ref a ∧ H a = some (.ins C dx fs) ∧ TyX K H y t0 ∧ PySem.W.notFirst K C t0 = true ∧ sp [x, y] H Q E
theorem op_eqX (c : MetC X.prog X.w X.K X.mg X.base C "__eq__" k ps sp) (room : Room k X.A) : OpR X (compareOp .Eq) (rOwnX X.K C sp E0) := by
  obtain ⟨f, fd, ok, M, hb⟩ := c.ex
  intro pins s σ H x y u v Q I rx ry h
  obtain ⟨a, dx, fs, t0, rfl, ha, ty, hn, q⟩ := h
  cases rx
  obtain ⟨od, J⟩ := inst_at I ha
  obtain ⟨m, fr⟩ := I.fr
  obtain ⟨Ph, Z, p, hx⟩ := kit_of I ry ty
  refine PySem.W.cmp_K (op := .Eq) room.units0 fr I.ok.mod.kin J (Z.ty _ _ I.kIn p) hn M.at_ M.fn ?_
  exact wpAny_mono (Runs.of ok room hb pass0 pins σ H s Q [.ref a, v] [.ref a, y] I (.cons rfl (.cons ry .nil)) q) (fun _ _ z => ep_back z) fun _ _ z => z
def rStrO (C : Addr) (sp : Sp) : List V → Hp → VK → Prop := fun xs H Q => ∃ a dx fs, xs = [.ref a] ∧ H a = some (.ins C dx fs) ∧ sp [.ref a] H (fun v H' => ∃ y, v = .str y ∧ Q (.str y) H') E0
theorem call_strO (c : MetC X.prog X.w X.K X.mg X.base C "__str__" k ps sp) (room : Room (k + 2) X.A) : CallR X (.type "str") (rStrO C sp) := by
  obtain ⟨f, fd, ok, M, hb⟩ := c.ex
  intro pins s σ H xs us Q I r h
  obtain ⟨a, dx, fs, rfl, ha, q⟩ := h
  rw [Vals.ref1 r]
  obtain ⟨od, J⟩ := inst_at I ha
  refine PySem.W.kso_call (by have := room.units; show X.A.units + 1 + 1 < cLine; omega) I.kIn J M.at_ M.fn ?_
  have len : [Value.ref a].length = ps.length := ok.len _ _ _ _ q
  have ran := ok.run X.A.in1.in1 X.stack s H ⟨[.ref a], []⟩ [Value.ref a] [V.ref a] _ E0 room.in1.in1 I.env0.in1.in1 (hb s [.ref a] I.kIn len) (.cons rfl .nil) q
  refine wpAny_call (codeAny_mono ran ?_)
  intro r s' h
  match r, h with
  | .error e, h => exact pass0 pins σ H s e s' I h
  | .ok (.ret u), h =>
    obtain ⟨v, H', I', rv, y, rfl, q'⟩ := I.after h
    obtain ⟨tk, rfl⟩ := rv
    exact ⟨.str y, H', I', ⟨tk, rfl⟩, q'⟩
  | .ok .next, h => exact False.elim h
  | .ok .brk, h => exact False.elim h
  | .ok .cont, h => exact False.elim h
end


end My
namespace My
open PySem PySem.Spec PyProof.Rows L2 TL
/-! ### sets of texts: made of a tuple or a list of texts, sorted -/
section
open PySem.Froz
/-- what a set of texts keeps: its payload holds the texts L, each once; its table rises and can be walked -/
structure TxR (P : Program) (w : World) (D : SD) (L : List Str) : Prop where
  ok : TxOk P w D L
  nd : L.Nodup
  rows : ((D.1.toList.map (·.2)).map strOf).Perm L
  str : ∀ v ∈ D.1.toList.map (·.2), ∃ k u, v = Value.str k u
  ris : Ris D.2.2.place.toList
  led : w.params.followText "set-order" = true ∨ D.2.2.led = true
theorem tailTx_eq (ep : Nat) (es : Array (Int × Value)) (t : SetTable) (b : Bool) : ∃ es' ep' t', tailTx ep es t b = (es', ep', t') ∧ es'.toList.Perm es.toList ∧ (Ris t.place.toList → Ris t'.place.toList) ∧ t'.led = t.led := by
  unfold tailTx
  by_cases c : (!b && t.tooFull) = true
  · rw [if_pos c]
    exact ⟨_, _, _, rfl, relayAll_perm _ _ _, fun _ => relayAll_ris _ _ _, relayAll_led _ _ _⟩
  · rw [if_neg c]
    exact ⟨_, _, _, rfl, List.Perm.refl _, id, rfl⟩
theorem TxR.add {P : Program} {w : World} {D : SD} {L : List Str} {k : Str} (u : Tok) (F : TxR P w D L) (hk : k ∉ L) : TxR P w (addTx (hashStr w k) (.str k u) D) (k :: L) := by
  have ok := add_ok u F.ok (k := k)
  obtain ⟨es, ep, t⟩ := D
  obtain ⟨_, nd, rows, str, ris, led⟩ := F
  have p0 := layNew_perm t es (hashStr w k) (.str k u)
  have r0 := layNew_ris t es (hashStr w k) (.str k u) ris
  have l0 := layNew_led t es (hashStr w k) (.str k u)
  rw [Array.toList_push] at p0
  unfold addTx at ok ⊢
  dsimp only at ok ⊢
  generalize hZ : layNew t es (hashStr w k) (.str k u) = Z at p0 r0 l0 ok ⊢
  obtain ⟨es1, t1, wd, gave⟩ := Z
  dsimp only at p0 r0 l0 ok ⊢
  have off : ∀ (c : Bool), ((if c = true then { t1 with plain := false } else t1 : SetTable)).place = t1.place ∧ (if c = true then { t1 with plain := false } else t1 : SetTable).led = t1.led := fun c => by cases c <;> exact ⟨rfl, rfl⟩
  obtain ⟨o1, o2⟩ := off t1.plain
  obtain ⟨es', ep', t', e, pe, re, le⟩ := tailTx_eq ep es1 (if t1.plain = true then { t1 with plain := false } else t1) wd
  rw [e] at ok ⊢
  have pp : (es'.toList.map (·.2)).Perm (es.toList.map (·.2) ++ [Value.str k u]) := by
    have q := (pe.trans p0).map (·.2)
    rw [List.map_append] at q
    exact q
  refine ⟨ok, List.nodup_cons.mpr ⟨hk, nd⟩, ?_, fun v hv => ?_, re (by rw [o1]; exact r0), led.imp id fun z => by rw [le, o2, l0]; exact z⟩
  · have q := pp.map strOf
    rw [List.map_append] at q
    exact q.trans ((List.perm_append_singleton _ _).trans (rows.cons k))
  · rcases List.mem_append.mp (pp.mem_iff.mp hv) with z | z
    · exact str v z
    · exact ⟨k, u, List.mem_singleton.mp z⟩
section
variable {P : Program} {w : World} {A : Around} {E : Value → Shared → Prop} {s : Shared}
theorem add_old {a : Addr} {T : String} {D : SD} {L : List Str} {k : Str} {u : Tok} {Q : Bool → Shared → Prop} (ho : s.heap.get? a = some (sObj T D)) (F : TxOk P w D L) (hk : k ∈ L) (hb : L.length < scanBound) (h : Q false s) :
    wpAny (model P w) A (setAddHashed a (.str k u) (hashStr w k)) Q E s := by
  obtain ⟨es, ep, t⟩ := D
  have hd : (sObj T (es, ep, t)).data = .set es ep t := rfl
  have hf : t.fits es.size = true := F.fit
  have hel : ElemsOf (PySem.strKind P w) es.toList := F.el
  have hsz : es.size = L.length := F.sz
  cases hfi : List.findIdx? (fun e => (PySem.strKind P w).is k e.2) es.toList with
  | none =>
    obtain ⟨e, he, z⟩ := (F.mem k).mp hk
    have c := List.findIdx?_eq_none_iff.mp hfi e he
    rw [z] at c
    cases c
  | some j =>
    unfold setAddHashed setAddHashedIn
    refine wpAny_holding (wpAny_bind (wpAny_setState_of ho hd hf ?_))
    dsimp only
    rw [byScan_of rfl (by omega) hel]
    simp only [↓reduceIte]
    unfold setAddByScan
    refine wpAny_bind (wpAny_bind (wpAny_rule (wpAny_bind (wpAny_setScan_of (knd := PySem.strKind P w) (k := k) (is_str k u) ho hd hf hel ?_))))
    rw [hfi]
    dsimp only
    exact wpAny_pure (wpAny_pure h)
end
/-- the set of texts at a -/
def SetS (P : Program) (w : World) (h : Heap) (a : Addr) (L : List Str) : Prop := ∃ D, h.get? a = some (sObj "set" D) ∧ TxR P w D L
theorem SetS.at {P : Program} {w : World} {h h' : Heap} {a : Addr} {L : List Str} (R : SetS P w h a L) (k : ∀ o, h.get? a = some o → h'.get? a = some o) : SetS P w h' a L := by
  obtain ⟨D, ho, r⟩ := R
  exact ⟨D, k _ ho, r⟩
def freshSet (w : World) : Obj := { cls := .type "set", dict := none, data := .set #[] 0 (.fresh 0 0 (!w.params.followText "set-order")) }
theorem SetS.fresh {P : Program} {w : World} {h : Heap} {a : Addr} (ho : h.get? a = some (freshSet w)) : SetS P w h a [] :=
  ⟨(#[], 0, .fresh 0 0 (!w.params.followText "set-order")), ho, .nil rfl, List.nodup_nil, List.Perm.refl _, fun v hv => (by simp at hv), List.Pairwise.nil, by
    show _ ∨ (!w.params.followText "set-order") = true
    cases w.params.followText "set-order"
    · exact .inr rfl
    · exact .inl rfl⟩
section
variable {P : Program} {w : World} {A : Around} {E : Value → Shared → Prop} {s : Shared}
/-- one text more -/
theorem SetS.put {a : Addr} {L : List Str} {k : Str} {u : Tok} {Q : Bool → Shared → Prop} (R : SetS P w s.heap a L) (room : L.length + 1 < scanBound)
    (h : ∀ b h' L', Heap.SameBut a s.heap h' → SetS P w h' a L' → L'.length ≤ L.length + 1 → (∀ x, x ∈ L' ↔ x = k ∨ x ∈ L) → Q b { s with heap := h' }) :
    wpAny (model P w) A (setAddHashed a (.str k u) (hashStr w k)) Q E s := by
  obtain ⟨D, ho, r⟩ := R
  by_cases hk : k ∈ L
  · exact add_old ho r.ok hk (by omega) (h false s.heap L (Heap.SameBut.refl a s.heap) ⟨D, ho, r⟩ (Nat.le_succ _) fun x => ⟨.inr, fun z => z.elim (fun e => e ▸ hk) id⟩)
  · refine add_x ho r.ok hk room (h true _ (k :: L) (Heap.SameBut.update s.heap a _) ⟨_, get_upd _ ho rfl, r.add u hk⟩ (Nat.le_refl _) fun x => List.mem_cons)
/-- the loop that puts a walk's texts into the set -/
theorem put_texts {I : Addr} {fp wr : List Addr} {G : Array GenState → Array GenState → Prop} {n : Nat} {Pv : Nat → Value → Prop} {St : Nat → Shared → Prop} {R : Result → Shared → Prop}
    (W : WalksS P w A.in1 I fp wr G n Pv St) (S : Addr) (far : S ∉ fp) (ks : List Str) (hn : n = ks.length) (few : ks.length + 1 < scanBound) (txt : ∀ i v, Pv i v → ∃ k u, ks[i]? = some k ∧ v = .str k u) :
    ∀ (m i : Nat) (s : Shared), n - i = m → i ≤ n → St i s → (∃ L, L.length ≤ i ∧ (∀ x, x ∈ L ↔ x ∈ ks.take i) ∧ SetS P w s.heap S L) →
      (∀ s' L, Moved (S :: wr) G s s' → L.length ≤ n → (∀ x, x ∈ L ↔ x ∈ ks) → SetS P w s'.heap S L → R (.ok (.ret .none)) s') →
      codeAny (model P w) A (.builtin "set.update.loop" ⟨[.ref S, .ref I], []⟩) R s := by
  have notW : S ∉ wr := fun z => far (W.sub _ z)
  have wider : ∀ b ∈ wr, b ∈ S :: wr := fun b => List.mem_cons_of_mem _
  intro m
  induction m with
  | zero =>
    intro i s hm hi st ⟨L, hL, mem, hS⟩ fin
    obtain rfl : i = n := by omega
    refine codeAny_builtin F.entry_set_update_loop ?_
    rw [Around.under_plainId F.plain_set_update_loop _]
    refine wpAny_bind (W.done s _ _ st fun s' mv => ?_)
    rw [List.take_of_length_le (by omega)] at mem
    exact wpAny_pure (fin s' L (mv.mono wider) hL mem (hS.at fun o e => mv.heap S o notW e))
  | succ m ih =>
    intro i s hm hi st ⟨L, hL, mem, hS⟩ fin
    have lt : i < n := by omega
    refine codeAny_builtin F.entry_set_update_loop ?_
    rw [Around.under_plainId F.plain_set_update_loop _]
    refine wpAny_bind (W.item i s _ _ lt st fun v s1 hv st1 mv => ?_)
    obtain ⟨k, u, hk, rfl⟩ := txt i v hv
    have hS1 : SetS P w s1.heap S L := hS.at fun o e => mv.heap S o notW e
    show wpAny _ A.in1 (holding [Value.str k u] (setAdd S (.str k u)) >>= _) _ _ s1
    refine wpAny_bind (wpAny_holding ?_)
    unfold setAdd
    refine wpAny_holding (wpAny_bind ((PySem.strKind P w).pyHash (k := k) (is_str k u) ?_))
    refine SetS.put (s := { s1 with toks := s1.toks + 1 }) hS1 (by omega) fun b h' L' sb hS2 hL2 mem2 => ?_
    refine wpAny_pure ⟨plainId_quiet F.plain_set_update_loop _, ih (i + 1) _ (by omega) lt (W.frame _ s1 _ _ st1 (Nat.le_succ _) fun c hc o e => ?_) ⟨L', by omega, fun x => ?_, hS2⟩ fun s2 L2 mv2 hL3 mem3 hS3 => ?_⟩
    · rw [sb.2 c (fun z => far (z ▸ hc))]
      exact e
    · rw [mem2, mem, List.take_add_one, hk, List.mem_append]
      show _ ↔ _ ∨ x ∈ [k]
      rw [List.mem_singleton]
      exact Or.comm
    · refine fin s2 L2 (Moved.trans W.gtrans ((mv.mono wider).then_heap (Nat.le_succ _) fun c o hc e => ?_) mv2) hL3 mem3 hS3
      rw [sb.2 c (fun z => hc (z ▸ List.mem_cons_self))]
      exact e
end
end


end My
namespace My
open PySem PySem.Spec PyProof.Rows L2 TL
/-! ### set(x), x a tuple or a list of texts -/
section
variable {P : Program} {w : World} {A : Around} {E : Value → Shared → Prop} {s : Shared}
/-- set(x): what __init__ does with the new, empty set is left open -/
theorem set_call (a : Value) {Q : Value → Shared → Prop} {R : Shared → Prop} (init : codeAny (model P w) A.in1 (.call (.builtin "set.__init__") ⟨[.ref s.heap.objs.size, a], []⟩) (wants (fun r s2 => r = .none ∧ R s2) E) { s with heap := s.heap.push (freshSet w) }) (fin : ∀ s2, R s2 → Q (.ref s.heap.objs.size) s2) :
    wpAny (model P w) A (call (.type "set") [a]) Q E s := by
  obtain ⟨c, tl, hmro⟩ := F.called_set.mro
  have hmade := F.called_set.made
  have hsub := F.called_set.sub
  refine wpAny_call (codeAny_of_tree ?_)
  show wpAny _ _ (callAny (.type "set") _) _ _ _
  refine wpAny_pure ⟨Code.quiet_builtin _ (by decide +kernel), codeAny_builtin F.entry_type_call ?_⟩
  rw [Around.under_plain (weight_type_call_type "set" [a] []) rfl]
  have h1 := F.called_set.notType
  have h2 := F.called_set.canCreate
  have hct := F.typeCall_set_1 a
  repeat (any_goals (first | assumption | wp_step))
  refine codeAny_mono (code_set_led1 a (E := E) (Q₁ := fun obj s₁ => obj = .ref s.heap.objs.size ∧ s₁ = { s with heap := s.heap.push (freshSet w) }) ⟨rfl, rfl⟩) fun r s₁ hr => ?_
  match r, hr with
  | .error e, hr => exact hr
  | .ok .next, hr => exact hr.elim
  | .ok .brk, hr => exact hr.elim
  | .ok .cont, hr => exact hr.elim
  | .ok (.ret obj), hr =>
    obtain ⟨rfl, rfl⟩ := hr
    have hS : (s.heap.push (freshSet w)).get? s.heap.objs.size = some (freshSet w) := Heap.get?_push_size _ rfl
    have hT : Shared.TypeIs { s with heap := s.heap.push (freshSet w) } (.ref s.heap.objs.size) "set" := ⟨_, hS, rfl⟩
    have hli := F.called_set.init.lookup
    have hbi := F.called_set.init.bind (.ref s.heap.objs.size)
    repeat (any_goals (first | assumption | wp_step))
    refine codeAny_mono init fun r2 s2 hr2 => ?_
    match r2, hr2 with
    | .error e, hr2 => exact hr2
    | .ok .next, hr2 => exact hr2.elim
    | .ok .brk, hr2 => exact hr2.elim
    | .ok .cont, hr2 => exact hr2.elim
    | .ok (.ret v), hr2 =>
      obtain ⟨rfl, q⟩ := hr2
      repeat (any_goals (first | assumption | wp_step))
      exact fin _ q
theorem txt_at : ∀ {us : List Value} {ks : List Str}, StrsAre us ks → us.length = ks.length ∧ ∀ (i : Nat) (v : Value), us[i]? = some v → ∃ k u, ks[i]? = some k ∧ v = .str k u
  | _, _, .nil => ⟨rfl, fun i v h => (by simp at h)⟩
  | _, _, .cons n t r => by
    obtain ⟨l, g⟩ := txt_at r
    refine ⟨congrArg (· + 1) l, fun i v h => ?_⟩
    cases i with
    | zero => exact ⟨n, t, rfl, (Option.some.inj h).symm⟩
    | succ i => exact g i v h
/-- the walk over a tuple or a list puts its texts into the new set -/
theorem set_tup {l : Addr} {items : Array Value} {ks : List Str} {Q : Value → Shared → Prop} (hh : A.handled = none) (hl : s.heap.IsTuple l items) (hi : StrsAre items.toList ks) (few : ks.length + 1 < scanBound)
    (h : ∀ (h' : Heap) (tk : Nat) L, SetS P w h' s.heap.objs.size L → L.length ≤ ks.length → (∀ x, x ∈ L ↔ x ∈ ks) → (∀ b o, s.heap.get? b = some o → h'.get? b = some o) → Q (.ref s.heap.objs.size) { s with heap := h', toks := tk }) :
    wpAny (model P w) A (call (.type "set") [.ref l]) Q E s := by
  obtain ⟨⟨ocls, odict, odata, oslots⟩, hol, hcl, nl, hdl⟩ := hl
  simp only at hcl hdl
  subst hcl
  subst hdl
  have hS : (s.heap.push (freshSet w)).get? s.heap.objs.size = some (freshSet w) := Heap.get?_push_size _ rfl
  have hT : Shared.TypeIs { s with heap := s.heap.push (freshSet w) } (.ref s.heap.objs.size) "set" := ⟨_, hS, rfl⟩
  have hol' : (s.heap.push (freshSet w)).get? l = some { cls := .type "tuple", dict := odict, data := .seq items nl, slots := oslots } := Heap.get?_push_of_some _ hol
  have hl1 : (s.heap.push (freshSet w)).IsTuple l items := ⟨_, hol', rfl, nl, rfl⟩
  refine set_call (R := fun s2 => ∃ h' tk L, s2 = { s with heap := h', toks := tk } ∧ SetS P w h' s.heap.objs.size L ∧ L.length ≤ ks.length ∧ (∀ x, x ∈ L ↔ x ∈ ks) ∧ ∀ b o, s.heap.get? b = some o → h'.get? b = some o) (.ref l) (codeAny_call_builtin F.called_set.init.plain F.entry_set_init (check_set_init_1 hT ?_)) fun s2 ⟨h', tk, L, e, q1, q2, q3, q4⟩ => by rw [e]; exact h h' tk L q1 q2 q3 q4
  have hsls := F.sub_tuple_set
  have hslf := F.sub_tuple_frozenset
  have hne : (Value.type "tuple" == Value.type "dict") = false := by decide
  unfold Builtin.«set.__init__» noKeywords Builtin.Frozenset.updateFrom
  generalize hPI : pyIter = PI
  wp_walk
  subst hPI
  refine wpAny_pyIter_tuple hl1 ?_
  refine wpAny_bind (wpAny_runValue ?_)
  have hlS : l < s.heap.objs.size := Heap.lt_size hol
  have sz : (s.heap.push (freshSet w)).objs.size = s.heap.objs.size + 1 := Heap.size_push ..
  obtain ⟨ln, txt⟩ := txt_at hi
  rw [Array.length_toList] at ln
  refine put_texts ((Walks.tuple (by simp [hh]) _ l (by rw [sz]; exact Nat.ne_of_lt (Nat.lt_succ_of_lt hlS)) items).toS) s.heap.objs.size ?_ ks ln few (fun i v hv => txt i v (by rw [Array.getElem?_toList]; exact hv)) (items.size - 0) 0 _ (by omega) (Nat.zero_le _)
    ⟨⟨_, Heap.get?_push_size _ rfl, rfl, rfl⟩, hl1.push _⟩ ⟨[], Nat.le_refl _, fun x => by rw [List.take_zero], SetS.fresh (Heap.get?_push_of_some _ hS)⟩ fun s' L mv hL mem hS' => ?_
  · rw [sz]
    simp only [List.mem_cons, List.not_mem_nil, or_false, not_or]
    exact ⟨Nat.ne_of_lt (Nat.lt_succ_self _), Nat.ne_of_gt hlS⟩
  · obtain ⟨h', g2, d', tk', os'⟩ := s'
    have eg : g2 = s.gens := mv.gens
    have ed : d' = s.drawn := mv.drawn
    have eo : os' = s.os := mv.os
    subst eg
    subst ed
    subst eo
    show wpAny _ _ _ _ _ _
    refine wpAny_pure ?_
    show wpAny _ _ (ret Value.none) _ _ _
    refine wpAny_pure ⟨rfl, h', tk', L, rfl, hS', by omega, mem, fun b o e => ?_⟩
    have hb : b < s.heap.objs.size := Heap.lt_size e
    refine mv.heap b o ?_ (Heap.get?_push_of_some _ (Heap.get?_push_of_some _ e))
    simp only [List.mem_cons, List.not_mem_nil, or_false, not_or]
    exact ⟨Nat.ne_of_lt hb, by show b ≠ (s.heap.push (freshSet w)).objs.size; rw [sz]; exact Nat.ne_of_lt (Nat.lt_succ_of_lt hb)⟩
end


end My
namespace My
open PySem PySem.Spec PyProof.Rows L2 TL
/-! ### sorted(a set of texts); set and sorted as calls -/
section
open PySem.Froz
variable {P : Program} {w : World} {A : Around} {E : Value → Shared → Prop} {s : Shared}
theorem SetS.sorted {a : Addr} {L : List Str} {Q : Value → Shared → Prop} (R : SetS P w s.heap a L) (hh : A.handled = none) (h64 : L.length < 64)
    (h : ∀ s' p (out : Array Value) (c : Nat) (ys : List Str), (∀ b o, s.heap.get? b = some o → s'.heap.get? b = some o) → s'.gens = s.gens → s'.os = s.os → s.heap.objs.size ≤ p → s'.heap.get? p = some (seqObj "list" out c) →
      StrsAre out.toList ys → ys.Perm L → ys.Nodup → sortedS ys = true → Q (.ref p) s') : wpAny (model P w) A (call (.builtin "sorted") [.ref a]) Q E s := by
  obtain ⟨⟨es, ep, t⟩, ho, ok, nd, rows, str, ris, led⟩ := R
  have hsz : es.size = L.length := ok.sz
  refine Calls.call_function_entry kind_sorted plain_sorted entry_sorted (args_sorted1 _) ?_
  unfold Builtin.«sorted»
  refine wpAny_bind (m := checkCount "sorted" 1 1 _) (wpAny_pure ?_)
  refine wpAny_bind (collect_set (A := A.in1) hh ⟨_, ho, rfl, rfl⟩ ok.fit (by show es.size < scanBound; rw [hsz]; unfold scanBound; omega) ris led fun s1 vs k1 hz g1 o1 pm => ?_)
  have S0 : StrsAre vs (vs.map strOf) := strsAre_map vs fun v hv => str v (pm.mem_iff.mp hv)
  have pk : (vs.map strOf).Perm L := (pm.map strOf).trans rows
  have ln : vs.length = L.length := by rw [← pk.length_eq, List.length_map]
  refine wpAny_bind (wpAny_newList ?_ (by rw [ln, sizeLine_eq]; omega))
  have hoL : (s1.heap.push (seqObj "list" vs.toArray 0)).get? s1.heap.objs.size = some (seqObj "list" vs.toArray 0) := Heap.get?_push_size _ rfl
  refine wpAny_bind (wpAny_holding (wpAny_call_entry slot_list_sort ⟨_, hoL, rfl⟩ entry_list_sort
    (list_sort_treeK strKind_oneLt (s := { s1 with heap := s1.heap.push (seqObj "list" vs.toArray 0) }) hoL S0.keysOf (fun v₁ v₂ rest e => keyKind_strs (by rw [← e]; exact S0)) (by rw [ln]; exact h64) fun st' hp hs => ⟨_, rfl, ?_⟩) (args_list_sort _)))
  obtain ⟨ys, y1, y2, y3⟩ := sorted_out_str S0 hp hs
  obtain ⟨c, hc⟩ := sortedHeap_at (vs := vs) (out := (arrOf st').map (·.2)) hoL
  have pL := y2.trans pk
  refine wpAny_pure ⟨_, rfl, h _ s1.heap.objs.size _ c ys (fun b u e => ?_) g1 o1 hz hc y1 pL (pL.nodup_iff.mpr nd) y3⟩
  have e1 := k1 b u e
  have lt := Heap.lt_size e1
  show (sortedHeap (s1.heap.push (seqObj "list" vs.toArray 0)) s1.heap.objs.size vs _).get? b = some u
  rw [sortedHeap_old (Nat.ne_of_lt lt) (by rw [size_push']; exact Nat.lt_succ_of_lt lt)]
  exact Heap.get?_push_of_some _ e1
end
/-- the set of texts at a, in the drawn heap -/
def SetSO (P : Program) (w : World) (a : Addr) (L : List Str) : HO := .ext fun h => SetS P w h a L
theorem setSO_new {w : World} {P : Program} {H : Hp} {h : Heap} {a : Addr} {L : List Str} (R : SetS P w h a L) : ObjOk P w H h a (SetSO P w a L) := by
  have ⟨D, ho, _⟩ := R
  exact ⟨R, ⟨_, ho⟩, fun h1 h2 p k => SetS.at p k⟩
section
variable {X : Cx}
/-- set(x), x a tuple of texts -/
def rSetS (K : PySem.W.Frag) (P : Program) (w : World) : List V → Hp → VK → Prop := fun xs H Q => ∃ (l : Addr) (ks : List Str), xs = [V.ref l] ∧ SqT K H l (ks.map V.str) ∧ ks.length < 64 ∧
  ∀ a L, H a = none → L.length ≤ ks.length → (∀ x, x ∈ L ↔ x ∈ ks) → Q (.ref a) (upd H a (SetSO P w a L))
theorem cr_setS (hc : X.calm = true) : CallR X (.type "set") (rSetS X.K X.prog X.w) := by
  intro pins s σ H xs us Q I r h
  obtain ⟨l, ks, rfl, hl, hf, q⟩ := h
  rw [Vals.ref1 r]
  obtain ⟨its, rv, ⟨o, ho, hc1, n, hd⟩, hz⟩ := I.tuple hl
  refine set_tup (P := X.prog) (w := X.w) (ks := ks) (I.ok.hd hc) ⟨o, ho, hc1, n, hd⟩ (by simpa using strsAre_of rv) (by unfold scanBound; omega) fun h' tk L R hL mem k => ?_
  exact ⟨.ref s.heap.objs.size, upd H s.heap.objs.size (SetSO X.prog X.w s.heap.objs.size L), I.laid (t' := tk) k (Nat.le_refl _) (setSO_new R), rfl, q _ L (I.hok.fresh (Nat.le_refl _)) hL mem⟩
/-- sorted(x), x a set of fewer than 64 texts -/
def rSortS (P : Program) (w : World) : List V → Hp → VK → Prop := fun xs H Q => ∃ (a : Addr) (L : List Str), xs = [V.ref a] ∧ H a = some (SetSO P w a L) ∧ L.length < 64 ∧
  ∀ (ys : List Str) (p : Addr), ys.Perm L → ys.Nodup → sortedS ys = true → H p = none → Q (.ref p) (upd H p (.lst (ys.map V.str)))
theorem vals_strs : ∀ {us : List Value} {ys : List Str}, StrsAre us ys → Vals (ys.map V.str) us
  | _, _, .nil => .nil
  | _, _, .cons n t r => .cons ⟨t, rfl⟩ (vals_strs r)
theorem cr_sortS (hc : X.calm = true) : CallR X (.builtin "sorted") (rSortS X.prog X.w) := by
  intro pins s σ H vs us Q I r h
  obtain ⟨a, L, rfl, ha, h64, q⟩ := h
  rw [Vals.ref1 r]
  have R : SetS X.prog X.w s.heap a L := (I.hok a _ ha).1
  refine R.sorted (I.ok.hd hc) h64 fun s' p out c ys k g o hp hg hs pm nd so => ?_
  have hlen : (ys.map V.str).length ≤ sizeLine := by rw [List.length_map, pm.length_eq, sizeLine_eq]; omega
  have hn : H p = none := I.hok.fresh hp
  have J : Inv X pins σ (upd H p (.lst (ys.map V.str))) { s with heap := s'.heap, gens := s'.gens, drawn := s'.drawn, toks := s'.toks } :=
    I.call (ch := []) (Un.laid k hp hn) (I.hok.laid k hp ⟨hlen, out.toList, c, vals_strs hs, hg⟩) (by rw [g]; exact I.bare) (fun _ z => nomatch z)
  have e : s' = { s with heap := s'.heap, gens := s'.gens, drawn := s'.drawn, toks := s'.toks } := by
    cases s'
    cases s
    cases o
    rfl
  rw [e]
  exact ⟨.ref p, _, J, rfl, q ys p pm nd so hn⟩
end


end My
namespace My
open PySem PySem.Spec PyProof.Rows L2 TL
/-! ### set(x), x a list of texts -/
section
open PySem.Froz
variable {P : Program} {w : World} {A : Around} {E : Value → Shared → Prop} {s : Shared}
/-- the walk over a tuple or a list puts its texts into the new set -/
theorem set_lst {l : Addr} {items : Array Value} {ks : List Str} {Q : Value → Shared → Prop} (hh : A.handled = none) (hl : s.heap.IsList l items) (hi : StrsAre items.toList ks) (few : ks.length + 1 < scanBound)
    (h : ∀ (h' : Heap) (tk : Nat) L, SetS P w h' s.heap.objs.size L → L.length ≤ ks.length → (∀ x, x ∈ L ↔ x ∈ ks) → (∀ b o, s.heap.get? b = some o → h'.get? b = some o) → Q (.ref s.heap.objs.size) { s with heap := h', toks := tk }) :
    wpAny (model P w) A (call (.type "set") [.ref l]) Q E s := by
  obtain ⟨⟨ocls, odict, odata, oslots⟩, hol, hcl, ⟨nl, hdl⟩⟩ := hl
  simp only at hcl hdl
  subst hcl
  subst hdl
  have hS : (s.heap.push (freshSet w)).get? s.heap.objs.size = some (freshSet w) := Heap.get?_push_size _ rfl
  have hT : Shared.TypeIs { s with heap := s.heap.push (freshSet w) } (.ref s.heap.objs.size) "set" := ⟨_, hS, rfl⟩
  have hol' : (s.heap.push (freshSet w)).get? l = some { cls := .type "list", dict := odict, data := .seq items nl, slots := oslots } := Heap.get?_push_of_some _ hol
  have hl1 : (s.heap.push (freshSet w)).IsList l items := ⟨_, hol', rfl, nl, rfl⟩
  refine set_call (R := fun s2 => ∃ h' tk L, s2 = { s with heap := h', toks := tk } ∧ SetS P w h' s.heap.objs.size L ∧ L.length ≤ ks.length ∧ (∀ x, x ∈ L ↔ x ∈ ks) ∧ ∀ b o, s.heap.get? b = some o → h'.get? b = some o) (.ref l) (codeAny_call_builtin F.called_set.init.plain F.entry_set_init (check_set_init_1 hT ?_)) fun s2 ⟨h', tk, L, e, q1, q2, q3, q4⟩ => by rw [e]; exact h h' tk L q1 q2 q3 q4
  have hsls := F.sub_list_set
  have hslf := F.sub_list_frozenset
  have hne : (Value.type "list" == Value.type "dict") = false := by decide
  unfold Builtin.«set.__init__» noKeywords Builtin.Frozenset.updateFrom
  generalize hPI : pyIter = PI
  wp_walk
  subst hPI
  refine wpAny_pyIter_list hl1 ?_
  refine wpAny_bind (wpAny_runValue ?_)
  have hlS : l < s.heap.objs.size := Heap.lt_size hol
  have sz : (s.heap.push (freshSet w)).objs.size = s.heap.objs.size + 1 := Heap.size_push ..
  obtain ⟨ln, txt⟩ := txt_at hi
  rw [Array.length_toList] at ln
  refine put_texts ((Walks.list (by simp [hh]) _ l (by rw [sz]; exact Nat.ne_of_lt (Nat.lt_succ_of_lt hlS)) items).toS) s.heap.objs.size ?_ ks ln few (fun i v hv => txt i v (by rw [Array.getElem?_toList]; exact hv)) (items.size - 0) 0 _ (by omega) (Nat.zero_le _)
    ⟨⟨_, Heap.get?_push_size _ rfl, rfl, rfl⟩, hl1.push _⟩ ⟨[], Nat.le_refl _, fun x => by rw [List.take_zero], SetS.fresh (Heap.get?_push_of_some _ hS)⟩ fun s' L mv hL mem hS' => ?_
  · rw [sz]
    simp only [List.mem_cons, List.not_mem_nil, or_false, not_or]
    exact ⟨Nat.ne_of_lt (Nat.lt_succ_self _), Nat.ne_of_gt hlS⟩
  · obtain ⟨h', g2, d', tk', os'⟩ := s'
    have eg : g2 = s.gens := mv.gens
    have ed : d' = s.drawn := mv.drawn
    have eo : os' = s.os := mv.os
    subst eg
    subst ed
    subst eo
    show wpAny _ _ _ _ _ _
    refine wpAny_pure ?_
    show wpAny _ _ (ret Value.none) _ _ _
    refine wpAny_pure ⟨rfl, h', tk', L, rfl, hS', by omega, mem, fun b o e => ?_⟩
    have hb : b < s.heap.objs.size := Heap.lt_size e
    refine mv.heap b o ?_ (Heap.get?_push_of_some _ (Heap.get?_push_of_some _ e))
    simp only [List.mem_cons, List.not_mem_nil, or_false, not_or]
    exact ⟨Nat.ne_of_lt hb, by show b ≠ (s.heap.push (freshSet w)).objs.size; rw [sz]; exact Nat.ne_of_lt (Nat.lt_succ_of_lt hb)⟩
end
section
variable {X : Cx}
/-- set(x), x a tuple or a list of texts -/
def rSetE (K : PySem.W.Frag) (P : Program) (w : World) : List V → Hp → VK → Prop := fun xs H Q => ∃ (l : Addr) (ks : List Str), xs = [V.ref l] ∧ (SqT K H l (ks.map V.str) ∨ SqL K H l (ks.map V.str)) ∧ ks.length < 64 ∧
  ∀ a L, H a = none → L.length ≤ ks.length → (∀ x, x ∈ L ↔ x ∈ ks) → Q (.ref a) (upd H a (SetSO P w a L))
theorem cr_setE (hc : X.calm = true) : CallR X (.type "set") (rSetE X.K X.prog X.w) := by
  intro pins s σ H xs us Q I r h
  obtain ⟨l, ks, rfl, hl, hf, q⟩ := h
  rcases hl with hl | hl
  · exact cr_setS hc pins s σ H _ us Q I r ⟨l, ks, rfl, hl, hf, q⟩
  · rw [Vals.ref1 r]
    obtain ⟨its, rv, p, hz⟩ := I.list hl
    refine set_lst (P := X.prog) (w := X.w) (ks := ks) (I.ok.hd hc) p.isList (by simpa using strsAre_of rv) (by unfold scanBound; omega) fun h' tk L R hL mem k => ?_
    exact ⟨.ref s.heap.objs.size, upd H s.heap.objs.size (SetSO X.prog X.w s.heap.objs.size L), I.laid (t' := tk) k (Nat.le_refl _) (setSO_new R), rfl, q _ L (I.hok.fresh (Nat.le_refl _)) hL mem⟩
end


end My
namespace My
open PySem PySem.Spec PyProof.Rows L2 TL
/-! ### x in o, o of an own class; for x in o, o's __iter__ hands out iter(a tuple) -/
section
variable {X : Cx} {k : Nat} {f C : Addr} {ps : List Str} {sp : Sp}
def rInO (C : Addr) (sp : Sp) (neg : Bool) : R2 := fun y x H Q => ∃ a dx fs, x = .ref a ∧ H a = some (.ins C dx fs) ∧ sp [.ref a, y] H (fun v H' => ∃ c, v = .bl c ∧ Q (.bl (if neg then !c else c)) H') E0
theorem op_inO (c : MetC X.prog X.w X.K X.mg X.base C "__contains__" k ps sp) (room : Room k X.A) : OpR X (compareOp .In) (rInO C sp false) := by
  obtain ⟨f, fd, ok, M, hb⟩ := c.ex
  intro pins s σ H y x u v Q I ry rx h
  obtain ⟨a, dx, fs, rfl, ha, q⟩ := h
  cases rx
  obtain ⟨od, J⟩ := inst_at I ha
  obtain ⟨mm, fr⟩ := I.fr
  refine PySem.W.in_K fr I.ok.mod.kin J M.at_ M.fn (wpAny_mono (Runs.of ok room hb pass0 pins σ H s _ [.ref a, _] [.ref a, y] I (.cons rfl (.cons ry .nil)) q) (fun r s' z => ?_) fun _ _ z => z)
  obtain ⟨w', H', I', r', b, rfl, q'⟩ := z
  cases r'
  exact wpAny_truthy_bool ⟨.bl b, H', I', rfl, q'⟩
theorem op_notInO (c : MetC X.prog X.w X.K X.mg X.base C "__contains__" k ps sp) (room : Room k X.A) : OpR X (compareOp .NotIn) (rInO C sp true) := by
  obtain ⟨f, fd, ok, M, hb⟩ := c.ex
  intro pins s σ H y x u v Q I ry rx h
  obtain ⟨a, dx, fs, rfl, ha, q⟩ := h
  cases rx
  obtain ⟨od, J⟩ := inst_at I ha
  obtain ⟨mm, fr⟩ := I.fr
  refine PySem.W.notIn_K fr I.ok.mod.kin J M.at_ M.fn (wpAny_mono (Runs.of ok room hb pass0 pins σ H s _ [.ref a, _] [.ref a, y] I (.cons rfl (.cons ry .nil)) q) (fun r s' z => ?_) fun _ _ z => z)
  obtain ⟨w', H', I', r', b, rfl, q'⟩ := z
  cases r'
  exact wpAny_truthy_bool ⟨.bl (!b), H', I', rfl, q'⟩
end
/-- a tuple's iterator at its turn i -/
def TiO (l it : Addr) (i : Nat) : HO := .ext fun h => h.IsTupleIter it l i
theorem tiO_ok {P : Program} {w : World} {H : Hp} {h : Heap} {l it : Addr} {i : Nat} (e : h.IsTupleIter it l i) : ObjOk P w H h it (TiO l it i) := ⟨e, let ⟨_, ho, _⟩ := e; ⟨_, ho⟩, fun h1 h2 p k => p.at fun o q => k _ q⟩
section
variable {X : Cx}
def rIterT (K : PySem.W.Frag) (n : Nat) : List V → Hp → VK → Prop := fun xs H Q => ∃ (l : Addr) (zs : List V), xs = [.ref l] ∧ SqT K H l zs ∧ ∀ it, H it = none → n ≤ it → Q (.ref it) (upd H it (TiO l it 0))
theorem call_iterT : CallR X (.builtin "iter") (rIterT X.K X.s_0.heap.objs.size) := by
  intro pins s σ H xs us Q I r h
  obtain ⟨l, zs, rfl, hq, q⟩ := h
  obtain ⟨u, rfl, ru⟩ := vals1 r
  cases ru
  obtain ⟨its, rv, pl, hz⟩ := I.tuple hq
  refine Calls.call_function_entry (by decide +kernel) (by decide +kernel) PySem.W.kdk_entry_iter (PySem.W.kdk_args_iter _) ?_
  unfold Builtin.«iter»
  refine wpAny_bind (m := someArgs "iter" 1 2 _) (wpAny_of_eq (a := [Value.ref l]) (by first | rfl | kernel_rfl!) ?_)
  show wpAny _ _ (pyIter (.ref l) >>= _) _ _ _
  refine wpAny_bind (wpAny_pyIter_tuple (show s.heap.IsTuple l its.toArray from pl) ?_)
  refine wpAny_pure ⟨_, rfl, ?_⟩
  exact ⟨.ref s.heap.objs.size, _, I.laid (t' := s.toks) (fun b u e => Heap.get?_push_of_some _ e) (Nat.le_refl _) (tiO_ok ⟨_, Heap.get?_push_size _ rfl, rfl, rfl⟩), rfl, q _ (I.hok.fresh (Nat.le_refl _)) I.sz⟩
end
/-- a def whose promise knows how many objects there were when it was called -/
structure FnOkN (P : Program) (w : World) (K : PySem.W.Frag) (mg : Str → Option Value) (base : Heap) (CX : CXT) (k : Nat) (f : Addr) (fd : FuncData) (ps : List Str) (sp : Nat → Sp) : Prop where
  arity : ∀ n vs H Q E, sp n vs H Q E → vs.length = ps.length
  go : ∀ (B : Around) (fr : List Env) (t : Shared) (H : Hp) (ar : Args) (us : List Value) (vs : List V) (Q : VK) (E : XK), Room k B → Env0 P w K mg base B fr t H → BindsTo t fd ar (ps.zip us) → Vals vs us → sp t.heap.objs.size vs H Q E →
    codeAny (model P w) B (.call (.ref f) ar) (CR CX fr P w H t Q E) t
section
variable {P : Program} {w : World} {K : PySem.W.Frag} {mg : Str → Option Value} {base : Heap}
theorem _root_.L2.Fun.okN {CX : CXT} {x qual : Str} {st : Stmt} {f : Addr} {fd : FuncData} {N ps : List Str} {k : Nat} {sp : Nat → Sp} (F : Fun K x qual st f fd) (S : FnScope N ps (defScope st)) (ar : ∀ n vs H Q E, sp n vs H Q E → vs.length = ps.length)
    (body : ∀ (cv : Value) (B : Around) (fr : List Env) (t : Shared) (H : Hp) (vs : List V) (Q : VK) (E : XK), Room k (B.deeper (envOfC qual (defScope st) t.heap.objs.size f cv)) → sp t.heap.objs.size vs H Q E →
      ∃ r, PSs (cxOf CX P w K mg base N qual (defScope st) f cv B fr t H E).nox (defBody st) r ∧ r { nx := fun _ H' => Q .non H', rt := Q } (start N vs) H) : FnOkN P w K mg base CX (k + 1) f fd ps sp := by
  obtain ⟨oc, od, kV, doc, pm, an, cv, ct, osl, rfl, found, isCode⟩ := F.ex
  refine ⟨ar, fun B fr t H args us vs Q E room env binds vals wish => ?_⟩
  have there : K.In t.heap := env.mod.kin.keeps (fun b o e => (env.bs b o e).1)
  have noLim : t.heap.NoLimit := env.mod.nolimit.keeps (fun b o e => (env.bs b o e).1)
  have kinds : ∀ y ∈ ps.zip us, (defScope st).names.lookup y.1 = some .local ∨ ((defScope st).names.lookup y.1 = some .cell ∧ ((cellsFrom (t.heap.objs.size + 1) (defScope st).names []).lookup y.1).isSome = true) := by
    rintro ⟨n, v⟩ hy
    exact (S.par n (List.of_mem_zip hy).1).imp id fun q => ⟨q, PySem.W.cellsFrom_some _ _ _ (.inl q)⟩
  refine codeAny_call_function room.depth (there _ _ found)
    rfl S.co S.gen rfl (PySem.W.codeRec_of there isCode) (binds _ _ _ _
      (wpAny_newFunctionEnv_cells S.kind kinds fun env' eq t1 start1 => ?_))
  subst eq
  refine ⟨noLim.keeps start1.toInCall.keep, codeAny_func ?_⟩
  obtain ⟨r, runs, ends⟩ := body cv B fr t H vs Q E (room.deeper _) wish
  refine wpAny_mono (runs.nox.run [] t1 (start N vs) H _ (inv_start S room.hd env (ar _ _ _ _ _ wish) vals start1) ends) ?_ fun _ _ z => z
  intro fl t2 got
  cases fl with
  | ret u =>
    obtain ⟨v, σ', H', J, rv, q⟩ := got
    exact ⟨v, H', J.os, J.bare, J.base, J.hok, rv, q⟩
  | next =>
    obtain ⟨σ', H', J, q⟩ := got
    exact ⟨V.non, H', J.os, J.bare, J.base, J.hok, rfl, q⟩
  | brk => exact got.choose_spec.choose_spec.2.elim
  | cont => exact got.choose_spec.choose_spec.2.elim
end
structure MetN (P : Program) (w : World) (K : PySem.W.Frag) (mg : Str → Option Value) (base : Heap) (C : Addr) (m : Str) (k : Nat) (ps : List Str) (sp : Nat → Sp) : Prop where
  ex : ∃ f fd, FnOkN P w K mg base CX0 k f fd ps sp ∧ Meth K C m f ∧ Binds K fd ps []
section
variable {X : Cx} {k : Nat} {f C : Addr} {fd : FuncData} {ps : List Str} {sp : Nat → Sp} {ds : List Value} {dvs : List V} {E : XK} {CX : CXT} {tg l : Expr} {tl : TE}
theorem run_fnN {pins : List (Addr × Obj)} {σ : L2.St} {H : Hp} {s : Shared} {Q : VK} {us : List Value} {vs : List V} (F : FnOkN X.prog X.w X.K X.mg X.base CX k f fd ps sp) (room : Room k X.A)
    (binds : Binds X.K fd ps ds) (dv : Vals dvs ds) (pass : Passes CX X E) (I : Inv X pins σ H s) (rel : Vals vs us) (wish : sp s.heap.objs.size (vs ++ dvs) H Q E) : wpAny (model X.prog X.w) X.A (call (.ref f) us) (EP X pins σ Q) X.xe s := by
  have both := rel.append dv
  have len : (us ++ ds).length = ps.length := both.length.symm.trans (F.arity _ _ _ _ _ wish)
  have ran := F.go X.A X.stack s H ⟨us, []⟩ (us ++ ds) (vs ++ dvs) Q E room I.env0 (binds s us I.kIn len) both wish
  refine wpAny_call (codeAny_mono ran ?_)
  intro r s' h
  match r, h with
  | .error e, h => exact pass pins σ H s e s' I h
  | .ok (.ret u), h => exact I.after h
  | .ok .next, h => exact False.elim h
  | .ok .brk, h => exact False.elim h
  | .ok .cont, h => exact False.elim h
/-- for .. in e, e of an own class whose __iter__ hands out a tuple's new iterator -/
def iOwn (K : PySem.W.Frag) (C : Addr) (sp : Nat → Sp) (tl : TE) : TI := fun σ H R => tl σ H fun x H1 => ∃ a dx fs, x = .ref a ∧ H1 a = some (.ins C dx fs) ∧
  ∀ n, sp n [.ref a] H1 (fun v H2 => ∃ it l, v = .ref it ∧ n ≤ it ∧ H2 it = some (TiO l it 0) ∧ (∃ xs, SqT K (ItX.dropH H2 it) l xs) ∧ R (Itt K l) (ItX.dropH H2 it)) E0
theorem pi_own (c : MetN X.prog X.w X.K X.mg X.base C "__iter__" k ps sp) (room : Room k X.A) (hl : PE X l tl) : PI X tg l (iOwn X.K C sp tl) := by
  refine ⟨fun pins s σ H R I h => ?_⟩
  refine thn (hl.run pins s σ H _ I h) fun v s1 ⟨x, H1, I1, r1, q1⟩ => ?_
  obtain ⟨a, dx, fs, rfl, ha, q⟩ := q1
  cases r1
  obtain ⟨f, fd, ok, M, hb⟩ := c.ex
  obtain ⟨od, J⟩ := inst_at I1 ha
  obtain ⟨mm, fr⟩ := I1.fr
  refine PySem.W.owit_iter fr I1.ok.mod.kin J M.at_ M.fn ?_
  refine wpAny_mono (run_fnN (us := [.ref a]) (vs := [.ref a]) ok room hb .nil pass0 I1 (.cons rfl .nil) (by rw [List.append_nil]; exact q s1.heap.objs.size)) (fun u s' z => ?_) fun _ _ z => z
  obtain ⟨v, H2, I2, rv, it, l, rfl, hn, hit, hq, hR⟩ := z
  cases rv
  have st : s'.heap.IsTupleIter it l 0 := (I2.hok it _ hit).1
  unfold PySem.W.OwitIt
  refine wpAny_specialOf (let ⟨o, ho, hc, _⟩ := st; ⟨o, ho, hc⟩) F.slot_tuple_iterator_next.lookup ?_
  have hit' := hit
  unfold TiO at hit'
  refine ⟨it, [it], _, _, ItX.dropH H2 it, rfl, ItX.inv_drop I2 hit', turn_tuple l it, st, fun b hb => ?_, hR⟩
  have e : b = it := by simpa using hb
  rw [e]
  exact ItX.inv_fp I2 hit (Nat.le_trans I1.sz hn)
end


end My
namespace My
open PySem PySem.Spec PyProof.Rows L2 TL
def topS (i : Nat) : Stmt := PySem.Challenge.pw_fromparts_k03_kinds_told.main.body.getD i (.Pass ⟨0, 0, 0, 0⟩)
abbrev s__wall : Stmt := topS 0
theorem sc__wall : FnScope ["k"] ["k"] (defScope s__wall) := ⟨rfl, rfl, rfl, by decide +kernel, rfl, by decide +kernel, by decide +kernel⟩
abbrev s_is_integer : Stmt := topS 3
theorem sc_is_integer : FnScope ["value"] ["value"] (defScope s_is_integer) := ⟨rfl, rfl, rfl, by decide +kernel, rfl, by decide +kernel, by decide +kernel⟩
abbrev s_is_word : Stmt := topS 4
theorem sc_is_word : FnScope ["value", "letter"] ["value"] (defScope s_is_word) := ⟨rfl, rfl, rfl, by decide +kernel, rfl, by decide +kernel, by decide +kernel⟩
abbrev s__kept : Stmt := topS 6
theorem sc__kept : FnScope ["value", "one", "name"] ["value"] (defScope s__kept) := ⟨rfl, rfl, rfl, by decide +kernel, rfl, by decide +kernel, by decide +kernel⟩
abbrev s_ParseError___init__ : Stmt := inClass (topS 11) 0
theorem sc_ParseError___init__ : FnScope ["self", "line"] ["self", "line"] (defScope s_ParseError___init__) := ⟨rfl, rfl, rfl, by decide +kernel, rfl, by decide +kernel, by decide +kernel⟩
abbrev s_InvalidNumber___init__ : Stmt := inClass (topS 12) 0
theorem sc_InvalidNumber___init__ : FnScope ["self", "number"] ["self", "number"] (defScope s_InvalidNumber___init__) := ⟨rfl, rfl, rfl, by decide +kernel, rfl, by decide +kernel, by decide +kernel⟩
abbrev s_Type___init__ : Stmt := inClass (topS 17) 0
theorem sc_Type___init__ : FnScope ["self", "inputs", "atom", "places", "order", "one", "word"] ["self", "inputs", "atom"] (defScope s_Type___init__) := ⟨rfl, rfl, rfl, by decide +kernel, rfl, by decide +kernel, by decide +kernel⟩
abbrev s_Type_read : Stmt := inClass (topS 17) 1
theorem sc_Type_read : FnScope ["cls", "text", "found"] ["cls", "text"] (defScope s_Type_read) := ⟨rfl, rfl, rfl, by decide +kernel, rfl, by decide +kernel, by decide +kernel⟩
abbrev s_Type_plain : Stmt := inClass (topS 17) 2
theorem sc_Type_plain : FnScope ["cls", "atom"] ["cls", "atom"] (defScope s_Type_plain) := ⟨rfl, rfl, rfl, by decide +kernel, rfl, by decide +kernel, by decide +kernel⟩
abbrev s_Type_inputs : Stmt := inClass (topS 17) 3
theorem sc_Type_inputs : FnScope ["self"] ["self"] (defScope s_Type_inputs) := ⟨rfl, rfl, rfl, by decide +kernel, rfl, by decide +kernel, by decide +kernel⟩
abbrev s_Type_atom : Stmt := inClass (topS 17) 4
theorem sc_Type_atom : FnScope ["self"] ["self"] (defScope s_Type_atom) := ⟨rfl, rfl, rfl, by decide +kernel, rfl, by decide +kernel, by decide +kernel⟩
abbrev s_Type_text : Stmt := inClass (topS 17) 5
theorem sc_Type_text : FnScope ["self"] ["self"] (defScope s_Type_text) := ⟨rfl, rfl, rfl, by decide +kernel, rfl, by decide +kernel, by decide +kernel⟩
abbrev s_Type_order : Stmt := inClass (topS 17) 6
theorem sc_Type_order : FnScope ["self"] ["self"] (defScope s_Type_order) := ⟨rfl, rfl, rfl, by decide +kernel, rfl, by decide +kernel, by decide +kernel⟩
abbrev s_Type_atoms : Stmt := inClass (topS 17) 7
theorem sc_Type_atoms : FnScope ["self"] ["self"] (defScope s_Type_atoms) := ⟨rfl, rfl, rfl, by decide +kernel, rfl, by decide +kernel, by decide +kernel⟩
abbrev s_Type_parts : Stmt := inClass (topS 17) 8
theorem sc_Type_parts : FnScope ["self", "inner", "by_text", "one", "part", "text"] ["self"] (defScope s_Type_parts) := ⟨rfl, rfl, rfl, by decide +kernel, rfl, by decide +kernel, by decide +kernel⟩
abbrev s_Type_positive : Stmt := inClass (topS 17) 9
theorem sc_Type_positive : FnScope ["self", "inner", "one", "word"] ["self"] (defScope s_Type_positive) := ⟨rfl, rfl, rfl, by decide +kernel, rfl, by decide +kernel, by decide +kernel⟩
abbrev s_Type_negative : Stmt := inClass (topS 17) 10
theorem sc_Type_negative : FnScope ["self", "inner", "one", "word"] ["self"] (defScope s_Type_negative) := ⟨rfl, rfl, rfl, by decide +kernel, rfl, by decide +kernel, by decide +kernel⟩
abbrev s_Type___rshift__ : Stmt := inClass (topS 17) 11
theorem sc_Type___rshift__ : FnScope ["self", "other"] ["self", "other"] (defScope s_Type___rshift__) := ⟨rfl, rfl, rfl, by decide +kernel, rfl, by decide +kernel, by decide +kernel⟩
abbrev s_Type___rrshift__ : Stmt := inClass (topS 17) 12
theorem sc_Type___rrshift__ : FnScope ["self", "other"] ["self", "other"] (defScope s_Type___rrshift__) := ⟨rfl, rfl, rfl, by decide +kernel, rfl, by decide +kernel, by decide +kernel⟩
abbrev s_Type___mod__ : Stmt := inClass (topS 17) 13
theorem sc_Type___mod__ : FnScope ["self", "other"] ["self", "other"] (defScope s_Type___mod__) := ⟨rfl, rfl, rfl, by decide +kernel, rfl, by decide +kernel, by decide +kernel⟩
abbrev s_Type___rmod__ : Stmt := inClass (topS 17) 14
theorem sc_Type___rmod__ : FnScope ["self", "other"] ["self", "other"] (defScope s_Type___rmod__) := ⟨rfl, rfl, rfl, by decide +kernel, rfl, by decide +kernel, by decide +kernel⟩
abbrev s_Type_renamed : Stmt := inClass (topS 17) 15
theorem sc_Type_renamed : FnScope ["self", "names"] ["self", "names"] (defScope s_Type_renamed) := ⟨rfl, rfl, rfl, by decide +kernel, rfl, by decide +kernel, by decide +kernel⟩
abbrev s_Type_put : Stmt := inClass (topS 17) 16
theorem sc_Type_put : FnScope ["self", "atom", "other"] ["self", "atom", "other"] (defScope s_Type_put) := ⟨rfl, rfl, rfl, by decide +kernel, rfl, by decide +kernel, by decide +kernel⟩
abbrev s_Type___len__ : Stmt := inClass (topS 17) 17
theorem sc_Type___len__ : FnScope ["self"] ["self"] (defScope s_Type___len__) := ⟨rfl, rfl, rfl, by decide +kernel, rfl, by decide +kernel, by decide +kernel⟩
abbrev s_Type___getitem__ : Stmt := inClass (topS 17) 18
theorem sc_Type___getitem__ : FnScope ["self", "at"] ["self", "at"] (defScope s_Type___getitem__) := ⟨rfl, rfl, rfl, by decide +kernel, rfl, by decide +kernel, by decide +kernel⟩
abbrev s_Type___iter__ : Stmt := inClass (topS 17) 19
theorem sc_Type___iter__ : FnScope ["self"] ["self"] (defScope s_Type___iter__) := ⟨rfl, rfl, rfl, by decide +kernel, rfl, by decide +kernel, by decide +kernel⟩
abbrev s_Type___contains__ : Stmt := inClass (topS 17) 20
theorem sc_Type___contains__ : FnScope ["self", "x", "part"] ["self", "x"] (defScope s_Type___contains__) := ⟨rfl, rfl, rfl, by decide +kernel, rfl, by decide +kernel, by decide +kernel⟩
abbrev s_Type___eq__ : Stmt := inClass (topS 17) 21
theorem sc_Type___eq__ : FnScope ["self", "other"] ["self", "other"] (defScope s_Type___eq__) := ⟨rfl, rfl, rfl, by decide +kernel, rfl, by decide +kernel, by decide +kernel⟩
abbrev s_Type___str__ : Stmt := inClass (topS 17) 22
theorem sc_Type___str__ : FnScope ["self"] ["self"] (defScope s_Type___str__) := ⟨rfl, rfl, rfl, by decide +kernel, rfl, by decide +kernel, by decide +kernel⟩
abbrev s__is_tuple_of_types : Stmt := topS 18
theorem sc__is_tuple_of_types : FnScope ["value", "one"] ["value"] (defScope s__is_tuple_of_types) := ⟨rfl, rfl, rfl, by decide +kernel, rfl, by decide +kernel, by decide +kernel⟩
abbrev s__text_inside : Stmt := topS 19
theorem sc__text_inside : FnScope ["wanted"] ["wanted"] (defScope s__text_inside) := ⟨rfl, rfl, rfl, by decide +kernel, rfl, by decide +kernel, by decide +kernel⟩
abbrev s__read_freely : Stmt := topS 20
theorem sc__read_freely : FnScope ["text", "depth", "pieces", "inputs", "piece"] ["text", "depth"] (defScope s__read_freely) := ⟨rfl, rfl, rfl, by decide +kernel, rfl, by decide +kernel, by decide +kernel⟩
abbrev s__read_piece : Stmt := topS 21
theorem sc__read_piece : FnScope ["piece", "depth"] ["piece", "depth"] (defScope s__read_piece) := ⟨rfl, rfl, rfl, by decide +kernel, rfl, by decide +kernel, by decide +kernel⟩
abbrev s__pieces : Stmt := topS 22
theorem sc__pieces : FnScope ["text", "pieces", "begun", "depth", "piece"] ["text"] (defScope s__pieces) := ⟨rfl, rfl, rfl, by decide +kernel, rfl, by decide +kernel, by decide +kernel⟩
abbrev s__law_dice : Stmt := topS 24
theorem sc__law_dice : FnScope ["_law_script", "_law_spot", "_law_cell", "_law_great", "_law_blend"] ["_law_script", "_law_spot"] (defScope s__law_dice) := ⟨rfl, rfl, rfl, by decide +kernel, rfl, by decide +kernel, by decide +kernel⟩
abbrev s__law_roll : Stmt := topS 25
theorem sc__law_roll : FnScope ["_law_dice_here", "_law_total", "_law_found", "_law_one", "_law_two"] ["_law_dice_here", "_law_total"] (defScope s__law_roll) := ⟨rfl, rfl, rfl, by decide +kernel, rfl, by decide +kernel, by decide +kernel⟩
abbrev s__law_pick : Stmt := topS 26
theorem sc__law_pick : FnScope ["_law_dice_here", "_law_items"] ["_law_dice_here", "_law_items"] (defScope s__law_pick) := ⟨rfl, rfl, rfl, by decide +kernel, rfl, by decide +kernel, by decide +kernel⟩
abbrev s__law_text : Stmt := topS 27
theorem sc__law_text : FnScope ["_law_kind_here", "_law_rows", "_law_one"] ["_law_kind_here"] (defScope s__law_text) := ⟨rfl, rfl, rfl, by decide +kernel, rfl, by decide +kernel, by decide +kernel⟩
abbrev s__law_atoms_of : Stmt := topS 28
theorem sc__law_atoms_of : FnScope ["_law_kind_here", "_law_found", "_law_one"] ["_law_kind_here"] (defScope s__law_atoms_of) := ⟨rfl, rfl, rfl, by decide +kernel, rfl, by decide +kernel, by decide +kernel⟩
abbrev s__law_order : Stmt := topS 29
theorem sc__law_order : FnScope ["_law_kind_here", "_law_one"] ["_law_kind_here"] (defScope s__law_order) := ⟨rfl, rfl, rfl, by decide +kernel, rfl, by decide +kernel, by decide +kernel⟩
abbrev s__law_kind : Stmt := topS 30
theorem sc__law_kind : FnScope ["_law_dice_here", "_law_atoms", "_law_order_here", "_law_most", "_law_inputs", "_law_left", "_law_turn", "_law_size", "_law_one"] ["_law_dice_here", "_law_atoms", "_law_order_here", "_law_most"] (defScope s__law_kind) := ⟨rfl, rfl, rfl, by decide +kernel, rfl, by decide +kernel, by decide +kernel⟩
abbrev s__law_made_kind : Stmt := topS 31
theorem sc__law_made_kind : FnScope ["_law_kind_here", "_law_one"] ["_law_kind_here"] (defScope s__law_made_kind) := ⟨rfl, rfl, rfl, by decide +kernel, rfl, by decide +kernel, by decide +kernel⟩
abbrev s__law_parts : Stmt := topS 32
theorem sc__law_parts : FnScope ["_law_kind_here", "_law_found", "_law_one"] ["_law_kind_here"] (defScope s__law_parts) := ⟨rfl, rfl, rfl, by decide +kernel, rfl, by decide +kernel, by decide +kernel⟩
abbrev s__law_signed : Stmt := topS 33
theorem sc__law_signed : FnScope ["_law_kind_here", "_law_is_up", "_law_found", "_law_one"] ["_law_kind_here", "_law_is_up"] (defScope s__law_signed) := ⟨rfl, rfl, rfl, by decide +kernel, rfl, by decide +kernel, by decide +kernel⟩
abbrev s__law_told_right : Stmt := topS 34
theorem sc__law_told_right : FnScope ["_law_made", "_law_kind_here", "_law_told", "_law_due", "_law_places", "_law_signed_here", "_law_odd", "_law_one", "_law_at"] ["_law_made", "_law_kind_here"] (defScope s__law_told_right) := ⟨rfl, rfl, rfl, by decide +kernel, rfl, by decide +kernel, by decide +kernel⟩
abbrev s__law_right : Stmt := topS 35
theorem sc__law_right : FnScope ["_law_dice_here", "_law_kind_here", "_law_other", "_law_made"] ["_law_dice_here"] (defScope s__law_right) := ⟨rfl, rfl, rfl, by decide +kernel, rfl, by decide +kernel, by decide +kernel⟩
abbrev s_law : Stmt := topS 36
theorem sc_law : FnScope ["_law_script", "_law_spot", "_law_dice_here", "_law_turn", "_law_one", "_law_told", "_law_part"] ["_law_script"] (defScope s_law) := ⟨rfl, rfl, rfl, by decide +kernel, rfl, by decide +kernel, by decide +kernel⟩
structure XType (K : PySem.W.Frag) (C : Addr) : Prop where
  n_inputs : PySem.W.findIn K (.ref C) "_inputs" = some none
  n_atom : PySem.W.findIn K (.ref C) "_atom" = some none
  n_places : PySem.W.findIn K (.ref C) "_places" = some none
  n_order : PySem.W.findIn K (.ref C) "_order" = some none
  n_text : PySem.W.findIn K (.ref C) "_text" = some none
  first : PySem.W.selfFirst K C = true
  nfirst : PySem.W.notFirst K C (.ref C) = true
  odd_NoneType : PySem.W.kitOne K (.type "NoneType") (.ref C) = some false
  nf_NoneType : PySem.W.notFirst K C (.type "NoneType") = true
  odd_int : PySem.W.kitOne K (.type "int") (.ref C) = some false
  nf_int : PySem.W.notFirst K C (.type "int") = true
  odd_str : PySem.W.kitOne K (.type "str") (.ref C) = some false
  nf_str : PySem.W.notFirst K C (.type "str") = true
  odd_tuple : PySem.W.kitOne K (.type "tuple") (.ref C) = some false
  nf_tuple : PySem.W.notFirst K C (.type "tuple") = true
  odd_list : PySem.W.kitOne K (.type "list") (.ref C) = some false
  nf_list : PySem.W.notFirst K C (.type "list") = true
  odd_dict : PySem.W.kitOne K (.type "dict") (.ref C) = some false
  nf_dict : PySem.W.notFirst K C (.type "dict") = true
  fn_getitem : ∀ f, Meth K C "__getitem__" f → PySem.W.fnIn K f = true
  ne : PySem.W.findIn K (.ref C) "__ne__" = some (some (.builtin "object.__ne__"))
  under : PySem.W.subIn K (.ref C) (.type "object") = some true
  cl1 : PySem.W.findIn K (.ref C) "__class__" = some (some (.builtin "object.__class__"))
  cl2 : PySem.W.specialIn K (.builtin "object.__class__") "__get__" = some (some (.builtin "getset_descriptor.__get__"))
  cl3 : PySem.W.takesIn K (.builtin "object.__class__") = some true
  cl4 : PySem.W.mroIn K C (.type "object") = some true
structure Txt (K : PySem.W.Frag) (mg : Str → Option Value) (C_Type : Addr) : Prop where
  c_Type : mg "Type" = some (.ref C_Type)
  k_Type : Cls K C_Type
  x_Type : XType K C_Type
  b_RuntimeError : mg "RuntimeError" = none
  b_ValueError : mg "ValueError" = none
  b_abs : mg "abs" = none
  b_all : mg "all" = none
  b_bool : mg "bool" = none
  b_classmethod : mg "classmethod" = none
  b_dict : mg "dict" = none
  b_int : mg "int" = none
  b_isinstance : mg "isinstance" = none
  b_iter : mg "iter" = none
  b_len : mg "len" = none
  b_list : mg "list" = none
  b_max : mg "max" = none
  b_min : mg "min" = none
  b_property : mg "property" = none
  b_range : mg "range" = none
  b_set : mg "set" = none
  b_sorted : mg "sorted" = none
  b_str : mg "str" = none
  b_tuple : mg "tuple" = none
  g_MAX_LETTERS : ∃ u, mg "MAX_LETTERS" = some u ∧ RelV (.int 8) u
  g_MAX_PLACES : ∃ u, mg "MAX_PLACES" = some u ∧ RelV (.int 15) u
  g_MAX_ORDER : ∃ u, mg "MAX_ORDER" = some u ∧ RelV (.int 4) u
  g__ARROW : ∃ u, mg "_ARROW" = some u ∧ RelV (.str " -> ") u
def isLow (c : Nat) : Bool := decide (97 ≤ c) && decide (c ≤ 122)
def isW : V → Bool
  | .str x => (decide (1 ≤ x.length) && decide (x.length ≤ 8)) && x.cps.toList.all isLow
  | _ => false
/-- a value that the law makes -/
def ValW (K : PySem.W.Frag) (H : Hp) (v : V) : Prop := (∃ x : Str, v = .str x ∧ x.length ≤ 1000 ∧ ∀ c ∈ x.cps.toList, c < 128) ∨
  (∃ t, TyX K H v t ∧ PySem.W.kitOne K t (.type "str") = some false ∧ isW v = false)
def sp_is_word (K : PySem.W.Frag) : Sp := fun vs H Q _ => ∃ v, vs = [v] ∧ ValW K H v ∧ ∀ H', Same H H' → Q (.bl (isW v)) H'
theorem isW_str (x : Str) : isW (.str x) = ((decide (1 ≤ x.length) && decide (x.length ≤ 8)) && x.cps.toList.all isLow) := rfl
section
variable {P : Program} {w : World} {K : PySem.W.Frag} {mg : Str → Option Value} {base : Heap}
theorem ok_is_word (T : Txt K mg C_Type) {f : Addr} {fd : FuncData} (F : Fun K "is_word" "is_word" s_is_word f fd) : FnOk P w K mg base CX0 1 f fd ["value"] (sp_is_word K) := by
  have nd := sc_is_word.nd
  refine F.ok sc_is_word (fun vs H Q E h => ?_) (fun cdv A outer s H vs Q E hr h => ?_)
  · obtain ⟨v, rfl, _⟩ := h
    rfl
  · obtain ⟨v, rfl, hv, q⟩ := h
    refine ⟨_, (pss_cons (ps_if (PW.pt (pw_or (pt_not (pt_val (pe_callB call_isi (by rfl) T.b_isinstance (by decide +kernel) (pa_cons (pv 0) (pa_cons (pe_bltn (v := .ty "str") (u := .type "str") (by rfl) T.b_str (by decide +kernel) rfl) pa_nil))))) (pw_or1 (pt_not (pt_chain op_le op_le pe_int (pe_callB call_len (by rfl) T.b_len (by decide +kernel) (pa_cons (pv 0) pa_nil)) (pe_globE rfl T.g_MAX_LETTERS)))))) (pss_one (ps_ret pe_bl)) pss_nil)
      (pss_one (ps_ret (pe_callB (cr_all rfl) (by rfl) T.b_all (by decide +kernel) (pa_cons (pe_lcD (own := [("letter", 1)]) (by rfl) nd (pi_str (pv 0)) (blkOk_by (own := [("letter", 1)]) (N := ["value", "letter"]) (sc := (defScope s_is_word)) (by decide +kernel)) (fun _ _ _ _ _ => pg_name (i := 1) nd rfl (Or.inl rfl)) (fun _ _ _ _ _ => pts_nil) (fun _ _ _ _ _ => (pe_chain op_le_str op_le_str pe_str (pv 1) pe_str))) pa_nil))))), ?_⟩
    rcases hv with ⟨x, rfl, hx, ha⟩ | ⟨t, ht, hk, hw⟩
    · have hx1 : x.length ≤ sizeLine := lt_line (by omega)
      have hxl : x.cps.toList.length = x.length := (len_tl x).symm
      refine ⟨.str x, rfl, .str x, .ty "str", .type "str", .type "str", true, rfl, .ty _, .base (.str x), kit_ty (by decide +kernel), true, rfl, ?_⟩
      refine iteF ?_
      refine ⟨.str x, rfl, .str x, x.length, rfl, ⟨hx1, rfl⟩, 1, (x.length : Int), rfl, rfl, _, rfl, ?_⟩
      refine ite2 (fun h1 => ?_) (fun h1 => ?_)
      · have h1' : 1 ≤ x.length := by have := of_decide_eq_true h1; omega
        refine ⟨(x.length : Int), 8, rfl, rfl, _, rfl, ?_⟩
        refine ite2 (fun h2 => ?_) (fun h2 => ?_)
        · have h2' : ¬ x.length ≤ 8 := fun z => by
            rw [decide_eq_true (show (x.length : Int) ≤ 8 by omega)] at h2
            cases h2
          have e : isW (.str x) = false := by rw [isW_str, decide_eq_false h2', Bool.and_false, Bool.false_and]
          have z := q H (Same.refl H)
          rw [e] at z
          exact z
        · have h2' : x.length ≤ 8 := by
            by_cases z : (x.length : Int) ≤ 8
            · omega
            · rw [decide_eq_false z] at h2
              exact absurd rfl h2
          refine ⟨.str x, rfl, x, rfl, fun D hD => lc_txt (fun i H' => H' D = some (.lst (((x.cps.toList.take i).map isLow).map V.bl)) ∧ Same H H') ?_ (fun i c H1 hc hP => ?_) (fun H1 hP => ?_)⟩
          · exact ⟨upd_same, (Same.refl H).mut hD⟩
          · obtain ⟨hD1, s1⟩ := hP
            refine ⟨rfl, tyes ?_⟩
            have fin : ∀ b, b = isLow c → ∃ acc, H1 D = some (.lst acc) ∧ acc.length < sizeLine ∧ ((upd H1 D (.lst (acc ++ [.bl b]))) D = some (.lst (((x.cps.toList.take (i + 1)).map isLow).map V.bl)) ∧ Same H (upd H1 D (.lst (acc ++ [.bl b])))) := by
              intro b e
              refine ⟨_, hD1, lt_line' ?_, ?_, s1.mut hD⟩
              · have := lt_of_get hc
                rw [List.length_map, List.length_map, List.length_take]
                omega
              · rw [upd_same, e, take_next hc, List.map_append, List.map_append]
                rfl
            refine ⟨.str ⟨#[c]⟩, rfl, "a", ⟨#[c]⟩, rfl, rfl, _, rfl, ?_⟩
            have ea : (decide ((⟨#[c]⟩ : Str).cps.toList < ("a" : Str).cps.toList)) = decide (c < 97) := lex1 c 97
            have ez : (decide (("z" : Str).cps.toList < (⟨#[c]⟩ : Str).cps.toList)) = decide (122 < c) := lex1 122 c
            refine ite2 (fun h3 => ?_) (fun h3 => ?_)
            · refine ⟨⟨#[c]⟩, "z", rfl, rfl, fin _ ?_⟩
              rw [ea] at h3
              rw [ez]
              unfold isLow
              by_cases z : c < 97
              · rw [decide_eq_true z] at h3
                cases h3
              · rw [decide_eq_true (show 97 ≤ c by omega), Bool.true_and]
                by_cases z2 : 122 < c
                · rw [decide_eq_true z2, decide_eq_false (by omega)]
                  rfl
                · rw [decide_eq_false z2, decide_eq_true (by omega)]
                  rfl
            · refine fin _ ?_
              rw [ea] at h3
              unfold isLow
              by_cases z : c < 97
              · rw [decide_eq_false (show ¬ 97 ≤ c by omega), Bool.false_and]
              · rw [decide_eq_false z] at h3
                exact absurd rfl h3
          · obtain ⟨hD1, s1⟩ := hP
            rw [List.take_length] at hD1
            refine ⟨D, _, rfl, SqL.of hD1, ?_⟩
            have e : isW (.str x) = (x.cps.toList.map isLow).all id := by
              rw [isW_str, decide_eq_true h1', decide_eq_true h2', List.all_map]
              rfl
            have z := q H1 s1
            rw [e] at z
            exact z
      · have h1' : ¬ 1 ≤ x.length := fun z => h1 (decide_eq_true (by omega))
        refine ⟨false, rfl, iteT ?_⟩
        have e : isW (.str x) = false := by rw [isW_str, decide_eq_false h1', Bool.false_and, Bool.false_and]
        have z := q H (Same.refl H)
        rw [e] at z
        exact z
    · refine ⟨v, rfl, v, .ty "str", t, .type "str", false, rfl, .ty _, ht, hk, false, rfl, ?_⟩
      refine iteT ?_
      refine iteT ?_
      have z := q H (Same.refl H)
      rw [hw] at z
      exact z
end

/-! ### types, plainly -/
inductive Ty where
  | mk (ins : List Ty) (atom : Str) : Ty
namespace Ty
def ins : Ty → List Ty
  | .mk i _ => i
def atom : Ty → Str
  | .mk _ a => a
mutual
def places : Ty → List Str
  | .mk i a => placesL i ++ [a]
def placesL : List Ty → List Str
  | [] => []
  | t :: r => places t ++ placesL r
end
mutual
def order : Ty → Nat
  | .mk i _ => orderL i
def orderL : List Ty → Nat
  | [] => 0
  | t :: r => max (order t + 1) (orderL r)
end
mutual
def text : Ty → Str
  | .mk i a => Txt.join " -> " (insideL i ++ [a])
/-- the texts of the arguments as they stand in the text -/
def insideL : List Ty → List Str
  | [] => []
  | t :: r => (if t.ins.isEmpty then text t else ("(" : Str) ++ text t ++ (")" : Str)) :: insideL r
end
def inside (t : Ty) : Str := if t.ins.isEmpty then text t else ("(" : Str) ++ text t ++ (")" : Str)
theorem insideL_map : ∀ l : List Ty, insideL l = l.map inside
  | [] => by rw [insideL]; rfl
  | t :: r => by rw [insideL, insideL_map r]; rfl
theorem placesL_cons (t : Ty) (r : List Ty) : placesL (t :: r) = places t ++ placesL r := by rw [placesL]
theorem placesL_nil : placesL [] = [] := by rw [placesL]
theorem placesL_append : ∀ l m : List Ty, placesL (l ++ m) = placesL l ++ placesL m
  | [], m => by rw [placesL_nil]; rfl
  | t :: r, m => by rw [List.cons_append, placesL_cons, placesL_cons, placesL_append r m, List.append_assoc]
/-- every atom is a word -/
def words (t : Ty) : Prop := ∀ a ∈ t.places, isW (.str a) = true ∧ ∀ c ∈ a.cps.toList, c < 128
/-- small enough to be made -/
structure Fits (t : Ty) : Prop where
  words : t.words
  few : t.places.length ≤ 15
  low : t.order ≤ 4
end Ty

/-! ### how long texts are -/
theorem isW_len {a : Str} (h : isW (.str a) = true) : 1 ≤ a.length ∧ a.length ≤ 8 := by
  rw [isW_str] at h
  simp only [Bool.and_eq_true, decide_eq_true_eq] at h
  exact h.1
theorem join_len (sep : Str) (ys : List Str) : (Txt.join sep ys).length = (ys.map (·.length)).sum + (ys.length - 1) * sep.length := PySem.size_glued sep ys
theorem app_len (x y : Str) : (x ++ y).length = x.length + y.length := by
  rw [len_tl, tl_append, List.length_append, ← len_tl, ← len_tl]
namespace Ty
theorem places_pos (t : Ty) : 1 ≤ t.places.length := by
  cases t with
  | mk i a =>
    rw [places, List.length_append]
    exact Nat.le_add_left 1 _
theorem len_placesL : ∀ l : List Ty, l.length ≤ (placesL l).length
  | [] => Nat.zero_le _
  | t :: r => by
    rw [placesL_cons, List.length_append, List.length_cons]
    have := places_pos t
    have := len_placesL r
    omega
theorem inside_len (t : Ty) : t.inside.length ≤ t.text.length + 2 := by
  unfold inside
  by_cases h : t.ins.isEmpty = true
  · rw [if_pos h]
    omega
  · rw [if_neg h, app_len, app_len]
    have h1 : ("(" : Str).length = 1 := by decide +kernel
    have h2 : (")" : Str).length = 1 := by decide +kernel
    omega
mutual
theorem text_len : ∀ t : Ty, (∀ a ∈ t.places, a.length ≤ 8) → t.text.length + 6 ≤ 14 * t.places.length
  | .mk i a, h => by
    have ha : a.length ≤ 8 := h a (by rw [places]; exact List.mem_append_right _ (List.mem_singleton.mpr rfl))
    have hi := insideL_len i fun b hb => h b (by rw [places]; exact List.mem_append_left _ hb)
    have sep : (" -> " : Str).length = 4 := by decide +kernel
    have n : (insideL i).length = i.length := by rw [insideL_map, List.length_map]
    rw [text, places, join_len, List.map_append, List.sum_append, List.length_append, List.length_append, sep, n]
    show _ + [a.length].sum + (i.length + 1 - 1) * 4 + 6 ≤ 14 * (_ + 1)
    rw [show [a.length].sum = a.length from Nat.add_zero _]
    omega
theorem insideL_len : ∀ l : List Ty, (∀ a ∈ placesL l, a.length ≤ 8) → ((insideL l).map (·.length)).sum + 4 * l.length ≤ 14 * (placesL l).length
  | [], _ => by
    rw [insideL]
    exact Nat.zero_le _
  | t :: r, h => by
    have h1 := text_len t fun a ha => h a (by rw [placesL_cons]; exact List.mem_append_left _ ha)
    have h2 := insideL_len r fun a ha => h a (by rw [placesL_cons]; exact List.mem_append_right _ ha)
    have h3 := inside_len t
    rw [insideL_map, List.map_cons, ← insideL_map, List.map_cons, List.sum_cons, List.length_cons, placesL_cons, List.length_append]
    omega
end
theorem text_small {t : Ty} (w : t.words) (n : t.places.length ≤ 15) : t.text.length ≤ 300 := by
  have := text_len t fun a ha => (isW_len (w a ha).1).2
  omega
theorem orderL_max : ∀ (l : List Ty) (m : Int), (l.map (fun t => ((t.order : Nat) : Int) + 1) = [] → m = 0) → (l.map (fun t => ((t.order : Nat) : Int) + 1) ≠ [] → m ∈ l.map (fun t => ((t.order : Nat) : Int) + 1) ∧ ∀ y ∈ l.map (fun t => ((t.order : Nat) : Int) + 1), y ≤ m) → m = ((orderL l : Nat) : Int) := by
  have up : ∀ l : List Ty, (∀ t ∈ l, t.order + 1 ≤ orderL l) ∧ (l ≠ [] → ∃ t ∈ l, orderL l = t.order + 1) := by
    intro l
    induction l with
    | nil => exact ⟨fun t h => (by cases h), fun h => absurd rfl h⟩
    | cons t r ih =>
      rw [orderL]
      refine ⟨fun u hu => ?_, fun _ => ?_⟩
      · rcases List.mem_cons.mp hu with rfl | hu
        · exact Nat.le_max_left _ _
        · exact Nat.le_trans (ih.1 u hu) (Nat.le_max_right _ _)
      · by_cases h : orderL r ≤ t.order + 1
        · exact ⟨t, List.mem_cons_self .., Nat.max_eq_left h⟩
        · cases r with
          | nil =>
            rw [orderL] at h
            exact absurd (Nat.zero_le _) h
          | cons u s =>
            obtain ⟨w, hw, e⟩ := ih.2 (by simp)
            exact ⟨w, List.mem_cons_of_mem _ hw, by rw [Nat.max_eq_right (by omega)]; exact e⟩
  intro l m h0 h1
  cases l with
  | nil =>
    rw [orderL]
    exact h0 rfl
  | cons t r =>
    obtain ⟨hm, top⟩ := h1 (by simp)
    obtain ⟨u1, u2⟩ := up (t :: r)
    obtain ⟨w, hw, e⟩ := u2 (by simp)
    obtain ⟨v, hv, ev⟩ := List.mem_map.mp hm
    have a1 := top _ (List.mem_map.mpr ⟨w, hw, rfl⟩)
    have a2 := u1 v hv
    omega
theorem words_ins {l : List Ty} {a : Str} {t : Ty} (h : (Ty.mk l a).words) (ht : t ∈ l) : t.words := by
  have sub : ∀ (l : List Ty) (t : Ty), t ∈ l → ∀ b ∈ t.places, b ∈ placesL l := by
    intro l
    induction l with
    | nil => intro t h; cases h
    | cons u r ih =>
      intro t h b hb
      rw [placesL_cons]
      rcases List.mem_cons.mp h with rfl | h
      · exact List.mem_append_left _ hb
      · exact List.mem_append_right _ (ih t h b hb)
  exact fun b hb => h b (by rw [places]; exact List.mem_append_left _ (sub l t ht b hb))
theorem few_ins {l : List Ty} {t : Ty} (ht : t ∈ l) : t.places.length ≤ (placesL l).length := by
  induction l with
  | nil => cases ht
  | cons u r ih =>
    rw [placesL_cons, List.length_append]
    rcases List.mem_cons.mp ht with rfl | h
    · omega
    · have := ih h
      omega
theorem low_ins {l : List Ty} {t : Ty} (ht : t ∈ l) : t.order + 1 ≤ orderL l := by
  induction l with
  | nil => cases ht
  | cons u r ih =>
    rw [orderL]
    rcases List.mem_cons.mp ht with rfl | h
    · exact Nat.le_max_left _ _
    · exact Nat.le_trans (ih h) (Nat.le_max_right _ _)
theorem Fits.ins {l : List Ty} {a : Str} {t : Ty} (f : (Ty.mk l a).Fits) (ht : t ∈ l) : t.Fits := by
  obtain ⟨w, n, o⟩ := f
  rw [places, List.length_append] at n
  rw [order] at o
  have h1 := few_ins ht
  have h2 := low_ins ht
  exact ⟨words_ins w ht, by omega, by omega⟩
end Ty

/-! ### types in the heap -/
mutual
def IsT (C : Addr) (H : Hp) : Ty → V → Prop
  | .mk i a, v => ∃ x dx p q rs, v = .ref x ∧ H x = some (.ins C dx [("_inputs", .ref p), ("_atom", .str a), ("_places", .ref q), ("_order", .int ((Ty.mk i a).order : Nat)), ("_text", .str (Ty.mk i a).text)]) ∧
    H p = some (.tup rs) ∧ IsTs C H i rs ∧ H q = some (.tup ((Ty.mk i a).places.map V.str))
def IsTs (C : Addr) (H : Hp) : List Ty → List V → Prop
  | [], rs => rs = []
  | t :: r, rs => ∃ v vs, rs = v :: vs ∧ IsT C H t v ∧ IsTs C H r vs
end
mutual
theorem IsT.same {C : Addr} {H H' : Hp} (s : Same H H') : ∀ (t : Ty) (v : V), IsT C H t v → IsT C H' t v
  | .mk i a, v, h => by
    rw [IsT] at h ⊢
    obtain ⟨x, dx, p, q, rs, e, hx, hp, hi, hq⟩ := h
    exact ⟨x, dx, p, q, rs, e, s _ _ hx, s _ _ hp, IsTs.same s i rs hi, s _ _ hq⟩
theorem IsTs.same {C : Addr} {H H' : Hp} (s : Same H H') : ∀ (l : List Ty) (rs : List V), IsTs C H l rs → IsTs C H' l rs
  | [], rs, h => by
    rw [IsTs] at h ⊢
    exact h
  | t :: r, rs, h => by
    rw [IsTs] at h ⊢
    obtain ⟨v, vs, e, h1, h2⟩ := h
    exact ⟨v, vs, e, IsT.same s t v h1, IsTs.same s r vs h2⟩
end
theorem IsTs.get {C : Addr} {H : Hp} : ∀ {l : List Ty} {rs : List V} {i : Nat} {v : V}, IsTs C H l rs → rs[i]? = some v → ∃ t, l[i]? = some t ∧ IsT C H t v
  | [], rs, i, v, h, e => by
    rw [IsTs] at h
    rw [h] at e
    cases e
  | t :: r, rs, i, v, h, e => by
    rw [IsTs] at h
    obtain ⟨w, ws, rfl, h1, h2⟩ := h
    cases i with
    | zero => exact ⟨t, rfl, by cases e; exact h1⟩
    | succ i => exact IsTs.get (l := r) (i := i) h2 e
theorem IsTs.len {C : Addr} {H : Hp} : ∀ {l : List Ty} {rs : List V}, IsTs C H l rs → rs.length = l.length
  | [], rs, h => by
    rw [IsTs] at h
    rw [h]
    rfl
  | t :: r, rs, h => by
    rw [IsTs] at h
    obtain ⟨w, ws, rfl, h1, h2⟩ := h
    rw [List.length_cons, IsTs.len h2, List.length_cons]
/-- what stands at a type's address -/
theorem IsT.at {C : Addr} {H : Hp} {t : Ty} {v : V} (h : IsT C H t v) : ∃ x dx p q rs, v = .ref x ∧ H x = some (.ins C dx [("_inputs", .ref p), ("_atom", .str t.atom), ("_places", .ref q), ("_order", .int (t.order : Nat)), ("_text", .str t.text)]) ∧
    H p = some (.tup rs) ∧ IsTs C H t.ins rs ∧ H q = some (.tup (t.places.map V.str)) := by
  cases t with
  | mk i a =>
    rw [IsT] at h
    exact h

/-! ### promises of the class -/
def sp__is_tuple_of_types (K : PySem.W.Frag) (C : Addr) : Sp := fun vs H Q _ => ∃ p rs l, vs = [.ref p] ∧ H p = some (.tup rs) ∧ IsTs C H l rs ∧ l.length ≤ 1000 ∧ ∀ H', Same H H' → Q (.bl true) H'
def sp__text_inside (K : PySem.W.Frag) (C : Addr) : Sp := fun vs H Q _ => ∃ v t, vs = [v] ∧ IsT C H t v ∧ t.text.length ≤ 100000 ∧ t.ins.length ≤ 1000 ∧ Q (.str t.inside) H
def sp_Type___init__ (K : PySem.W.Frag) (C : Addr) : Sp := fun vs H Q _ => ∃ x dx p rs l a, vs = [.ref x, .ref p, .str a] ∧ H x = some (.ins C dx []) ∧ H p = some (.tup rs) ∧ IsTs C H l rs ∧ (Ty.mk l a).Fits ∧
  ∀ q H', (∀ b o, b ≠ x → H b = some o → H' b = some o) → H' x = some (.ins C dx [("_inputs", .ref p), ("_atom", .str a), ("_places", .ref q), ("_order", .int ((Ty.mk l a).order : Nat)), ("_text", .str (Ty.mk l a).text)]) →
    H' q = some (.tup ((Ty.mk l a).places.map V.str)) → Q .non H'
section
variable {P : Program} {w : World} {K : PySem.W.Frag} {mg : Str → Option Value} {base : Heap} {C_Type : Addr}
theorem ty_of_ins {H : Hp} {a dx : Addr} {fs : List (Str × V)} (k : Cls K C_Type) (x : XType K C_Type) (h : H a = some (.ins C_Type dx fs)) : TyX K H (.ref a) (.ref C_Type) := .base (.ins h k x.cl1 x.cl2 x.cl3 x.cl4)
theorem kit_self (C : Addr) : PySem.W.kitOne K (.ref C) (.ref C) = some true := by
  unfold PySem.W.kitOne
  rw [if_pos (by simp)]
theorem ok__is_tuple_of_types (T : Txt K mg C_Type) {f : Addr} {fd : FuncData} (F : Fun K "_is_tuple_of_types" "_is_tuple_of_types" s__is_tuple_of_types f fd) : FnOk P w K mg base CX0 1 f fd ["value"] (sp__is_tuple_of_types K C_Type) := by
  have nd := sc__is_tuple_of_types.nd
  refine F.ok sc__is_tuple_of_types (fun vs H Q E h => ?_) (fun cdv A outer s H vs Q E hr h => ?_)
  · obtain ⟨p, rs, l, rfl, _⟩ := h
    rfl
  · obtain ⟨p, rs, l, rfl, hp, hl, hn, q⟩ := h
    refine ⟨_, (pss_one (ps_ret (pe_and (pe_callB call_isi (by rfl) T.b_isinstance (by decide +kernel) (pa_cons (pv 0) (pa_cons (pe_bltn (v := .ty "tuple") (u := .type "tuple") (by rfl) T.b_tuple (by decide +kernel) rfl) pa_nil))) (pe_one (pe_callB (cr_all rfl) (by rfl) T.b_all (by decide +kernel) (pa_cons (pe_lcD (own := [("one", 1)]) (by rfl) nd (pi_tup (pv 0)) (blkOk_by (own := [("one", 1)]) (N := ["value", "one"]) (sc := (defScope s__is_tuple_of_types)) (by decide +kernel)) (fun _ _ _ _ _ => pg_name (i := 1) nd rfl (Or.inl rfl)) (fun _ _ _ _ _ => pts_nil) (fun _ _ _ _ _ => (pe_callB call_isi (by rfl) T.b_isinstance (by decide +kernel) (pa_cons (pv 1) (pa_cons (pe_glob (v := .ref C_Type) rfl T.c_Type rfl) pa_nil))))) pa_nil)))))), ?_⟩
    refine ⟨.ref p, rfl, .ref p, .ty "tuple", .type "tuple", .type "tuple", true, rfl, .ty _, .base (.tup hp), kit_ty (by decide +kernel), true, rfl, iteT ?_⟩
    refine ⟨.ref p, rfl, p, rfl, ⟨rs, SqT.of hp⟩, fun D hD => lc_tup (xs := rs) (fun i H' => H' D = some (.lst ((List.replicate i true).map V.bl)) ∧ Same H H') ?_ (fun i H1 _ hP => SqT.of (hP.2 _ _ hp)) (fun i x H1 hx hP => ?_) (fun H1 hP => ?_)⟩
    · exact ⟨upd_same, (Same.refl H).mut hD⟩
    · obtain ⟨hD1, s1⟩ := hP
      obtain ⟨t, _, ht⟩ := hl.get hx
      obtain ⟨a, dx, p', q', rs', rfl, ha, _⟩ := (IsT.same s1 t x ht).at
      have io := lt_of_get hx
      rw [hl.len] at io
      refine ⟨rfl, tyes ?_⟩
      refine ⟨.ref a, rfl, .ref a, .ref C_Type, .ref C_Type, .ref C_Type, true, rfl, .own _, ty_of_ins T.k_Type T.x_Type ha, kit_self _, _, hD1, lt_line' ?_, ?_, s1.mut hD⟩
      · rw [List.length_map, List.length_replicate]
        omega
      · rw [upd_same, List.replicate_succ', List.map_append]
        rfl
    · obtain ⟨hD1, s1⟩ := hP
      refine ⟨D, _, rfl, SqL.of hD1, ?_⟩
      have e : (List.replicate rs.length true).all id = true := List.all_eq_true.mpr fun b hb => by
        rw [List.eq_of_mem_replicate hb]
        rfl
      rw [e]
      exact q _ s1
theorem ok__text_inside (T : Txt K mg C_Type) (p_Type_inputs : PrpC P w K mg base C_Type "inputs" 1 ["self"] (getSp C_Type "_inputs")) (p_Type_text : PrpC P w K mg base C_Type "text" 1 ["self"] (getSp C_Type "_text")) {f : Addr} {fd : FuncData} (F : Fun K "_text_inside" "_text_inside" s__text_inside f fd) : FnOk P w K mg base CX0 3 f fd ["wanted"] (sp__text_inside K C_Type) := by
  have nd := sc__text_inside.nd
  refine F.ok sc__text_inside (fun vs H Q E h => ?_) (fun cdv A outer s H vs Q E hr h => ?_)
  · obtain ⟨v, t, rfl, _⟩ := h
    rfl
  · obtain ⟨v, t, rfl, ht, hz, hi, q⟩ := h
    refine ⟨_, (pss_cons (ps_if (pt_truth (pe_propC p_Type_inputs T.k_Type (hr.mono (by first | decide | omega)) (pv 0)) (by intro _; rfl)) (pss_one (ps_ret (pe_joined (PJ.cons pe_str (PJ.cons (pe_fmt (pe_propC p_Type_text T.k_Type (hr.mono (by first | decide | omega)) (pv 0))) (PJ.cons pe_str PJ.nil)))))) pss_nil)
      (pss_one (ps_ret (pe_propC p_Type_text T.k_Type (hr.mono (by first | decide | omega)) (pv 0))))), ?_⟩
    obtain ⟨a, dx, p, q', rs, rfl, ha, hp, hs, hq⟩ := ht.at
    refine ⟨.ref a, rfl, a, dx, _, rfl, ha, a, dx, _, .ref p, rfl, ha, rfl, _, .inr (.inl ⟨rs, SqT.of hp, rfl⟩), ?_⟩
    have hl := hs.len
    unfold Ty.inside at q
    cases hc : t.ins with
    | nil =>
      rw [hc] at hl q
      rw [List.length_eq_zero_iff.mp hl]
      refine iteF ?_
      exact ⟨.ref a, rfl, a, dx, _, rfl, ha, a, dx, _, .str t.text, rfl, ha, rfl, q⟩
    | cons t' r =>
      rw [hc] at hl q
      cases rs with
      | nil => cases hl
      | cons y ys =>
        refine iteT ?_
        refine ⟨"(", rfl, by decide +kernel, .ref a, rfl, a, dx, _, rfl, ha, a, dx, _, .str t.text, rfl, ha, rfl, .inl ⟨_, rfl, lt_line (by omega), _, rfl, ?_, ")", rfl, ?_, ?_⟩⟩
        · rw [len_tl, tl_append, List.length_append, ← len_tl, ← len_tl]
          exact lt_line (by have : (Str.empty ++ ("(" : Str)).length = 1 := by decide +kernel
                            omega)
        · rw [len_tl, tl_append, tl_append, List.length_append, List.length_append, ← len_tl, ← len_tl, ← len_tl]
          exact lt_line (by have h1 : (Str.empty ++ ("(" : Str)).length = 1 := by decide +kernel
                            have h2 : ((")" : Str)).length = 1 := by decide +kernel
                            omega)
        · have e : Str.empty ++ ("(" : Str) = ("(" : Str) := by decide +kernel
          rw [e]
          exact q
end


end My
namespace My
open PySem PySem.Spec PyProof.Rows L2 TL
/-! ### what stays, but for new instances -/
/-- all stays but an instance without fields -/
def Kept (H H' : Hp) : Prop := ∀ b o, H b = some o → (∀ C dx, o ≠ .ins C dx []) → H' b = some o
theorem _root_.L2.Same.kept {H H' : Hp} (s : Same H H') : Kept H H' := fun b o h _ => s b o h
theorem Kept.same {H H' H2 : Hp} (k : Kept H H') (s : Same H' H2) : Kept H H2 := fun b o h n => s b o (k b o h n)
theorem Kept.new {H H' : Hp} (k : Kept H H') {x C dx : Addr} {o : HO} (h : H x = some (.ins C dx [])) : Kept H (upd H' x o) := fun b u hb n => by
  rw [upd_ne (ne_of hb h (n C dx))]
  exact k b u hb n
theorem Ty.ins_len (t : Ty) : t.ins.length ≤ t.places.length := by
  cases t with
  | mk i a =>
    rw [Ty.places, List.length_append]
    exact Nat.le_trans (Ty.len_placesL i) (Nat.le_add_right _ _)
theorem putF_new (f : Str) (v : V) : ∀ fs : List (Str × V), (∀ g ∈ fs.map (·.1), g ≠ f) → putF f v fs = fs ++ [(f, v)]
  | [], _ => rfl
  | (g, x) :: r, h => by
    unfold putF
    rw [if_neg (h g (List.mem_cons_self ..)), putF_new f v r fun k hk => h k (List.mem_cons_of_mem _ hk)]
    rfl
mutual
theorem IsT.kept {C : Addr} {H H' : Hp} (s : Kept H H') : ∀ (t : Ty) (v : V), IsT C H t v → IsT C H' t v
  | .mk i a, v, h => by
    rw [IsT] at h ⊢
    obtain ⟨x, dx, p, q, rs, e, hx, hp, hi, hq⟩ := h
    exact ⟨x, dx, p, q, rs, e, s _ _ hx (fun _ _ z => nomatch z), s _ _ hp (fun _ _ z => nomatch z), IsTs.kept s i rs hi, s _ _ hq (fun _ _ z => nomatch z)⟩
theorem IsTs.kept {C : Addr} {H H' : Hp} (s : Kept H H') : ∀ (l : List Ty) (rs : List V), IsTs C H l rs → IsTs C H' l rs
  | [], rs, h => by
    rw [IsTs] at h ⊢
    exact h
  | t :: r, rs, h => by
    rw [IsTs] at h ⊢
    obtain ⟨v, vs, e, h1, h2⟩ := h
    exact ⟨v, vs, e, IsT.kept s t v h1, IsTs.kept s r vs h2⟩
end
theorem nx_go {D : Ends} {σ : L2.St} {H : Hp} (h : D.nx σ H) : tNext D σ H := h
section
variable {P : Program} {w : World} {K : PySem.W.Frag} {mg : Str → Option Value} {base : Heap} {C_Type : Addr}
theorem ok_Type___init__ (T : Txt K mg C_Type) (c__is_tuple_of_types : CalN P w K mg base "_is_tuple_of_types" 1 ["value"] (sp__is_tuple_of_types K C_Type)) (c_is_word : CalN P w K mg base "is_word" 1 ["value"] (sp_is_word K)) (p_Type_order : PrpC P w K mg base C_Type "order" 1 ["self"] (getSp C_Type "_order")) (c__text_inside : CalN P w K mg base "_text_inside" 3 ["wanted"] (sp__text_inside K C_Type)) {f : Addr} {fd : FuncData} (F : Fun K "__init__" "Type.__init__" s_Type___init__ f fd) : FnOk P w K mg base CX0 4 f fd ["self", "inputs", "atom"] (sp_Type___init__ K C_Type) := by
  have nd := sc_Type___init__.nd
  refine F.ok sc_Type___init__ (fun vs H Q E h => ?_) (fun cdv A outer s H vs Q E hr h => ?_)
  · obtain ⟨x, dx, p, rs, l, a, rfl, _⟩ := h
    rfl
  · obtain ⟨x, dx, p, rs, l, a, rfl, hx, hp, hl, fit, q⟩ := h
    refine ⟨_, (pss_cons (ps_if (pt_not (pt_val (pe_callN c__is_tuple_of_types (hr.mono (by first | decide | omega)) rfl (pa_cons (pv 1) pa_nil)))) (pss_one ps_never) pss_nil)
      (pss_cons (ps_if (pt_not (pt_val (pe_callN c_is_word (hr.mono (by first | decide | omega)) rfl (pa_cons (pv 2) pa_nil)))) (pss_one ps_never) pss_nil)
      (pss_cons (ps_set (i := 3) nd rfl (.inl rfl) (pe_op op_cat (pe_lc2D (own := [("one", 5), ("word", 6)]) (vs1 := [6]) (by rfl) nd (pi_tup (pv 1)) (blkOk_by (own := [("one", 5), ("word", 6)]) (N := ["self", "inputs", "atom", "places", "order", "one", "word"]) (sc := (defScope s_Type___init__)) (by decide +kernel)) (by decide) (fun _ _ _ _ _ => pg_name (i := 5) nd rfl (Or.inl rfl)) (fun _ _ _ _ _ => pts_nil) (fun _ _ _ _ _ => (pi_tup (pe_fld (pv 5) rfl))) (fun _ _ _ _ _ => pg_name (i := 6) nd rfl (Or.inl rfl)) (fun _ _ _ _ _ => pts_nil) (fun _ _ _ _ _ => (pv 6))) (pe_lst (pa_cons (pv 2) pa_nil))))
      (pss_cons (ps_set (i := 4) nd rfl (.inl rfl) (pe_maxD rfl (by rfl) T.b_max (pe_lcD (own := [("one", 5)]) (by rfl) nd (pi_tup (pv 1)) (blkOk_by (own := [("one", 5)]) (N := ["self", "inputs", "atom", "places", "order", "one", "word"]) (sc := (defScope s_Type___init__)) (by decide +kernel)) (fun _ _ _ _ _ => pg_name (i := 5) nd rfl (Or.inl rfl)) (fun _ _ _ _ _ => pts_nil) (fun _ _ _ _ _ => (pe_op op_add (pe_propC p_Type_order T.k_Type (hr.mono (by first | decide | omega)) (pv 5)) pe_int))) pe_int))
      (pss_cons (ps_if (PW.pt (pw_or (pt_cmpR op_gt (pe_callB call_len (by rfl) T.b_len (by decide +kernel) (pa_cons (pv 3) pa_nil)) (pe_globE rfl T.g_MAX_PLACES) (nomark _)) (pw_or1 (pt_cmpR op_gt (pv 4) (pe_globE rfl T.g_MAX_ORDER) (nomark _))))) (pss_one ps_never) pss_nil)
      (pss_cons (ps_fld (pv 0) (pv 1) rfl)
      (pss_cons (ps_fld (pv 0) (pv 2) rfl)
      (pss_cons (ps_fld (pv 0) (pe_callTy call_tuple_of (by rfl) T.b_tuple (by decide +kernel) (pa_cons (pv 3) pa_nil)) rfl)
      (pss_cons (ps_fld (pv 0) (pv 4) rfl)
      (pss_one (ps_fld (pv 0) (pe_join (pe_globE rfl T.g__ARROW) (pe_op op_cat (pe_lcD (own := [("one", 5)]) (by rfl) nd (pi_tup (pv 1)) (blkOk_by (own := [("one", 5)]) (N := ["self", "inputs", "atom", "places", "order", "one", "word"]) (sc := (defScope s_Type___init__)) (by decide +kernel)) (fun _ _ _ _ _ => pg_name (i := 5) nd rfl (Or.inl rfl)) (fun _ _ _ _ _ => pts_nil) (fun _ _ _ _ _ => (pe_callN c__text_inside (hr.mono (by first | decide | omega)) rfl (pa_cons (pv 5) pa_nil)))) (pe_lst (pa_cons (pv 2) pa_nil)))) rfl))))))))))), ?_⟩
    obtain ⟨fw, fn, fo⟩ := id fit
    have pl : (Ty.mk l a).places = Ty.placesL l ++ [a] := by rw [Ty.places]
    have few : (Ty.placesL l).length ≤ 14 := by
      rw [pl, List.length_append] at fn
      exact Nat.le_of_succ_le_succ fn
    have len : l.length ≤ 14 := Nat.le_trans (Ty.len_placesL l) few
    have aw := fw a (by rw [pl]; exact List.mem_append_right _ (List.mem_singleton.mpr rfl))
    have al := isW_len aw.1
    have hrl := hl.len
    -- the two looks
    refine ⟨.ref p, rfl, p, rs, l, rfl, hp, hl, by omega, fun H1 s1 => ⟨true, rfl, iteF ?_⟩⟩
    refine ⟨.str a, rfl, .str a, rfl, .inl ⟨a, rfl, by omega, aw.2⟩, fun H2 s2 => ⟨true, congrArg V.bl aw.1, iteF ?_⟩⟩
    have s12 := s1.trans s2
    clear s1 s2
    -- places
    refine nx_go ?_
    dsimp only
    refine cut_set (fun v H' => ∃ d, v = .ref d ∧ H' d = some (.lst ((Ty.mk l a).places.map V.str)) ∧ Same H H') (fun Q' q' => ?_) ?_
    · refine ⟨.ref p, rfl, p, rfl, ⟨rs, SqT.of (s12 _ _ hp)⟩, fun D hD => ?_⟩
      have nD : H D = none := s12.free hD
      refine walk_tup (xs := rs) (fun i H' => H' D = some (.lst ((Ty.placesL (l.take i)).map V.str)) ∧ Same H H') ?_ (fun i H' _ hP => SqT.of (hP.2 _ _ hp)) (fun i y H' hy hP => ?_) (fun H' hP => ?_)
      · exact ⟨by rw [upd_same, List.take_zero, Ty.placesL_nil]; rfl, s12.mut nD⟩
      · obtain ⟨hD1, s1⟩ := hP
        obtain ⟨t, et, ht⟩ := hl.get hy
        obtain ⟨b, dx', p', q', rs', rfl, hb, _, _, hq⟩ := (IsT.same s1 t y ht).at
        have tl : t.places.length ≤ 14 := Nat.le_trans (Ty.few_ins (List.mem_of_getElem? et)) few
        refine ⟨rfl, tyes ?_⟩
        refine ⟨.ref b, rfl, b, C_Type, dx', _, .ref q', rfl, hb, T.k_Type, T.x_Type.n_places, rfl, q', rfl, ⟨_, SqT.of hq⟩, ?_⟩
        refine walk_tup (xs := t.places.map V.str) (fun j H'' => H'' D = some (.lst ((Ty.placesL (l.take i) ++ t.places.take j).map V.str)) ∧ Same H H'' ∧ H'' q' = some (.tup (t.places.map V.str))) ?_ (fun i H' _ hP => SqT.of hP.2.2) (fun j y H'' hy2 hP => ?_) (fun H'' hP => ?_)
        · exact ⟨by rw [List.take_zero, List.append_nil]; exact hD1, s1, hq⟩
        · obtain ⟨hD2, s2, hq2⟩ := hP
          rw [List.getElem?_map] at hy2
          cases hz : t.places[j]? with
          | none =>
            rw [hz] at hy2
            cases hy2
          | some z =>
            rw [hz] at hy2
            cases hy2
            have jl := lt_of_get hz
            have i14 : (Ty.placesL (l.take i)).length ≤ 14 := by
              have e : l = l.take i ++ l.drop i := (List.take_append_drop i l).symm
              have : (Ty.placesL l).length = (Ty.placesL (l.take i)).length + (Ty.placesL (l.drop i)).length := by
                rw [← List.length_append, ← Ty.placesL_append, ← e]
              omega
            refine ⟨rfl, tyes ?_⟩
            refine ⟨_, rfl, _, hD2, lt_line' ?_, ?_, s2.mut nD, ?_⟩
            · rw [List.length_map, List.length_append, List.length_take]
              omega
            · rw [upd_same, take_next hz, ← List.append_assoc, List.map_append (l₂ := [z])]
              rfl
            · rw [upd_ne (ne_of hq2 hD2 (fun z => nomatch z))]
              exact hq2
        · obtain ⟨hD2, s2, hq2⟩ := hP
          refine ⟨?_, s2⟩
          rw [hD2, List.length_map, List.take_length, take_next et, Ty.placesL_append, Ty.placesL_cons, Ty.placesL_nil, List.append_nil]
      · obtain ⟨hD1, s1⟩ := hP
        rw [hrl, List.take_length] at hD1
        refine ⟨.str a, rfl, by show 1 ≤ sizeLine; decide, fun d1 h1 => ?_⟩
        refine ⟨D, d1, _, [.str a], rfl, rfl, by rw [upd_ne (ne_of_none hD1 h1)]; exact hD1, upd_same, lt_line (by rw [List.length_map]; show _ + 1 ≤ _; omega), fun d2 h2 => ?_⟩
        refine q' _ _ ⟨d2, rfl, ?_, (s1.new h1).new h2⟩
        rw [upd_same, pl, List.map_append]
        rfl
    rintro v H3 ⟨dp, rfl, hdp, s3⟩
    refine cut_set (fun v H' => v = .int (((Ty.mk l a).order : Nat) : Int) ∧ H' dp = some (.lst ((Ty.mk l a).places.map V.str)) ∧ Same H H') (fun Q' q' => ?_) ?_
    · refine ⟨.ref p, rfl, p, rfl, ⟨rs, SqT.of (s3 _ _ hp)⟩, fun D hD => ?_⟩
      have nD : H D = none := s3.free hD
      refine lc_tup (xs := rs) (fun i H' => H' D = some (.lst (((l.take i).map (fun t => ((t.order : Nat) : Int) + 1)).map V.int)) ∧ H' dp = some (.lst ((Ty.mk l a).places.map V.str)) ∧ Same H H') ?_ (fun i H' _ hP => SqT.of (hP.2.2 _ _ hp)) (fun i y H' hy hP => ?_) (fun H' hP => ?_)
      · exact ⟨by rw [upd_same, List.take_zero]; rfl, by rw [upd_ne (ne_of_none hdp hD)]; exact hdp, s3.mut nD⟩
      · obtain ⟨hD1, hd1, s1⟩ := hP
        obtain ⟨t, et, ht⟩ := hl.get hy
        obtain ⟨b, dx', p', q', rs', rfl, hb, _⟩ := (IsT.same s1 t y ht).at
        have io := lt_of_get hy
        rw [hrl] at io
        refine ⟨rfl, tyes ?_⟩
        refine ⟨.ref b, rfl, b, dx', _, rfl, hb, b, dx', _, .int ((t.order : Nat) : Int), rfl, hb, rfl, ((t.order : Nat) : Int), 1, rfl, rfl, _, hD1, lt_line' ?_, ?_, ?_, s1.mut nD⟩
        · rw [List.length_map, List.length_map, List.length_take]
          omega
        · rw [upd_same, take_next et, List.map_append, List.map_append]
          rfl
        · rw [upd_ne]
          · exact hd1
          · intro e
            subst e
            rw [hdp] at hD
            cases hD
      · obtain ⟨hD1, hd1, s1⟩ := hP
        rw [hrl, List.take_length] at hD1
        refine ⟨_, rfl, D, l.map (fun t => ((t.order : Nat) : Int) + 1), 0, rfl, rfl, SqL.of hD1, fun m h0 h1 => q' _ _ ⟨?_, hd1, s1⟩⟩
        rw [Ty.orderL_max l m h0 h1, Ty.order]
    rintro v H4 ⟨rfl, hd4, s4⟩
    refine ⟨.ref dp, rfl, _, _, rfl, .inl ⟨_, SqL.of hd4, rfl⟩, _, _, rfl, rfl, false, congrArg V.bl (decide_eq_false (by rw [List.length_map]; omega)), iteF ?_⟩
    refine ⟨_, rfl, _, _, rfl, rfl, false, congrArg V.bl (decide_eq_false (by omega)), iteF ?_⟩
    refine nx_go ?_
    dsimp only
    have hx4 := s4 _ _ hx
    refine ⟨.ref p, rfl, .ref x, rfl, x, C_Type, dx, _, rfl, hx4, T.k_Type, T.x_Type.n_inputs, by decide, ?_⟩
    rw [show putF "_inputs" (V.ref p) [] = [(("_inputs" : Str), V.ref p)] from rfl]
    refine ⟨.str a, rfl, .ref x, rfl, x, C_Type, dx, _, rfl, upd_same, T.k_Type, T.x_Type.n_atom, by show 1 < 1000; decide, ?_⟩
    rw [upd_upd, putF_new "_atom" (V.str a) [(("_inputs" : Str), V.ref p)] (show ∀ g ∈ (["_inputs"] : List Str), g ≠ "_atom" by decide +kernel), List.cons_append, List.nil_append]
    have xd : dp ≠ x := ne_of hd4 hx4 (fun z => nomatch z)
    have k5 : ∀ o, Kept H (upd H4 x o) := fun o => s4.kept.new hx
    refine ⟨.ref dp, rfl, dp, _, rfl, .inl ⟨SqL.of ((upd_ne xd).trans hd4), fun q0 hq0 => ?_⟩⟩
    have q0x : x ≠ q0 := ne_of_none upd_same hq0
    refine ⟨.ref x, rfl, x, C_Type, dx, _, rfl, (upd_ne q0x).trans upd_same, T.k_Type, T.x_Type.n_places, by show 2 < 1000; decide, ?_⟩
    rw [putF_new "_places" (V.ref q0) [(("_inputs" : Str), V.ref p), ("_atom", V.str a)] (show ∀ g ∈ (["_inputs", "_atom"] : List Str), g ≠ "_places" by decide +kernel), List.cons_append, List.cons_append, List.nil_append]
    refine ⟨_, rfl, .ref x, rfl, x, C_Type, dx, _, rfl, upd_same, T.k_Type, T.x_Type.n_order, by show 3 < 1000; decide, ?_⟩
    rw [upd_upd, putF_new "_order" (.int (((Ty.mk l a).order : Nat) : Int)) [(("_inputs" : Str), V.ref p), ("_atom", V.str a), ("_places", V.ref q0)] (show ∀ g ∈ (["_inputs", "_atom", "_places"] : List Str), g ≠ "_order" by decide +kernel), List.cons_append, List.cons_append, List.cons_append, List.nil_append]
    generalize hH6 : upd (upd (upd H4 x _) q0 _) x _ = H6
    have hx6 : H6 x = some (.ins C_Type dx [("_inputs", .ref p), ("_atom", .str a), ("_places", .ref q0), ("_order", .int (((Ty.mk l a).order : Nat) : Int))]) := by rw [← hH6, upd_same]
    have hq6 : H6 q0 = some (.tup ((Ty.mk l a).places.map V.str)) := by rw [← hH6, upd_ne (Ne.symm q0x), upd_same]
    have k6 : Kept H H6 := by
      rw [← hH6]
      exact Kept.new (fun b o hb n => by rw [upd_ne (ne_of_none (k5 _ b o hb n) hq0)]; exact k5 _ b o hb n) hx
    have o6 : ∀ b o, b ≠ x → H b = some o → H6 b = some o := fun b o bx hb => by
      have h5 : ∀ u, upd H4 x u b = some o := fun u => by
        rw [upd_ne bx]
        exact s4 b o hb
      rw [← hH6, upd_ne bx, upd_ne (ne_of_none (h5 _) hq0)]
      exact h5 _
    clear hH6
    have hp6 := k6 _ _ hp (fun _ _ z => nomatch z)
    refine ⟨⟨_, rfl⟩, .ref p, rfl, p, rfl, ⟨rs, SqT.of hp6⟩, fun D hD => ?_⟩
    refine lc_tup (xs := rs) (fun i H' => H' D = some (.lst (((l.take i).map Ty.inside).map V.str)) ∧ Same H6 H') ?_ (fun i H' _ hP => SqT.of (hP.2 _ _ hp6)) (fun i y H' hy hP => ?_) (fun H' hP => ?_)
    · exact ⟨by rw [upd_same, List.take_zero]; rfl, (Same.refl H6).mut hD⟩
    · obtain ⟨hD1, s1⟩ := hP
      obtain ⟨t, et, ht⟩ := hl.get hy
      have ft := fit.ins (List.mem_of_getElem? et)
      have io := lt_of_get hy
      rw [hrl] at io
      have f2 := ft.few
      refine ⟨rfl, tyes ?_⟩
      refine ⟨y, rfl, y, t, rfl, IsT.kept (k6.same s1) t y ht, Nat.le_trans (Ty.text_small ft.words ft.few) (by decide), Nat.le_trans t.ins_len (by omega), _, hD1, lt_line' ?_, ?_, s1.mut hD⟩
      · rw [List.length_map, List.length_map, List.length_take]
        omega
      · rw [upd_same, take_next et, List.map_append, List.map_append]
        rfl
    · obtain ⟨hD1, s1⟩ := hP
      rw [hrl, List.take_length, ← Ty.insideL_map] at hD1
      have ln : (Ty.insideL l).length = l.length := by rw [Ty.insideL_map, List.length_map]
      refine ⟨.str a, rfl, by show 1 ≤ sizeLine; decide, fun d1 h1 => ?_⟩
      refine ⟨D, d1, _, [.str a], rfl, rfl, by rw [upd_ne (ne_of_none hD1 h1)]; exact hD1, upd_same, lt_line (by rw [List.length_map, ln]; show _ + 1 ≤ _; omega), fun d2 h2 => ?_⟩
      have s9 := (s1.new (o := .lst [.str a]) h1).new (o := .lst ((Ty.insideL l).map V.str ++ [.str a])) h2
      refine ⟨" -> ", d2, Ty.insideL l ++ [a], rfl, rfl, .inl (SqL.of ?_), ?_, ?_⟩
      · rw [upd_same, List.map_append]
        rfl
      · have i1 := Ty.insideL_len l (fun b hb => (isW_len (fw b (by rw [pl]; exact List.mem_append_left _ hb)).1).2)
        have sep : (" -> " : Str).length = 4 := by decide +kernel
        rw [List.map_append, List.sum_append, List.length_append, sep, ln]
        show _ + [a.length].sum + (l.length + 1) * 4 ≤ 16777216
        rw [show [a.length].sum = a.length from Nat.add_zero _]
        omega
      · refine ⟨.ref x, rfl, x, C_Type, dx, _, rfl, s9 _ _ hx6, T.k_Type, T.x_Type.n_text, by show 4 < 1000; decide, ?_⟩
        rw [putF_new "_text" (.str (Txt.join " -> " (Ty.insideL l ++ [a]))) [(("_inputs" : Str), V.ref p), ("_atom", V.str a), ("_places", V.ref q0), ("_order", .int (((Ty.mk l a).order : Nat) : Int))] (show ∀ g ∈ (["_inputs", "_atom", "_places", "_order"] : List Str), g ≠ "_text" by decide +kernel)]
        refine q q0 _ (fun b o bx hb => ?_) ?_ ?_
        · rw [upd_ne bx]
          exact s9 b o (o6 b o bx hb)
        · rw [upd_same, Ty.text]
          rfl
        · rw [upd_ne (Ne.symm q0x)]
          exact s9 _ _ hq6
end


end My
namespace My
open PySem PySem.Spec PyProof.Rows L2 TL
/-! ### the class's smaller methods -/
theorem make_ty {K : PySem.W.Frag} {C : Addr} {H1 : Hp} {p : Addr} {rs : List V} {l : List Ty} {a : Str} {Q : VK} {E : XK} (hp : H1 p = some (.tup rs)) (hl : IsTs C H1 l rs) (fit : (Ty.mk l a).Fits) (q : ∀ x H', Same H1 H' → IsT C H' (.mk l a) (.ref x) → Q (.ref x) H') :
    ∀ x dx, H1 x = none → H1 dx = none → dx ≠ x → sp_Type___init__ K C (.ref x :: ([.ref p, .str a] ++ [])) (upd (upd H1 dx (.own x)) x (.ins C dx [])) (fun v H2 => v = .non ∧ Q (.ref x) H2) E := by
  intro x dx hx hdx ne
  have s : Same H1 (upd (upd H1 dx (.own x)) x (.ins C dx [])) := ((Same.refl H1).new hdx).new (by rw [upd_ne (Ne.symm ne)]; exact hx)
  refine ⟨x, dx, p, rs, l, a, rfl, upd_same, s _ _ hp, IsTs.same s l rs hl, fit, fun q' H' k e1 e2 => ?_⟩
  have s' : Same H1 H' := fun b o hb => k b o (ne_of_none hb hx) (s b o hb)
  refine ⟨rfl, q x H' s' ?_⟩
  rw [IsT]
  exact ⟨x, dx, p, q', rs, rfl, e1, s' _ _ hp, IsTs.same s' l rs hl, e2⟩
/-- what a making method hands out -/
def Made (C : Addr) (H : Hp) (Q : VK) (t : Ty) : Prop := ∀ x H', Same H H' → IsT C H' t (.ref x) → Q (.ref x) H'
def sp_is_integer (K : PySem.W.Frag) : Sp := fun vs H Q _ => ∃ i : Nat, vs = [.int i] ∧ i ≤ 1000 ∧ ∀ H', Same H H' → Q (.bl true) H'
def sp_Type_plain (K : PySem.W.Frag) (C : Addr) : Sp := fun vs H Q _ => ∃ a, vs = [.ref C, .str a] ∧ (Ty.mk [] a).Fits ∧ Made C H Q (.mk [] a)
def sp_Type___rshift__ (K : PySem.W.Frag) (C : Addr) : Sp := fun vs H Q _ => ∃ v u t o, vs = [v, u] ∧ IsT C H t v ∧ IsT C H o u ∧ (Ty.mk (t :: o.ins) o.atom).Fits ∧ Made C H Q (.mk (t :: o.ins) o.atom)
def sp_Type___mod__ (K : PySem.W.Frag) (C : Addr) : Sp := fun vs H Q _ => ∃ v t, ∃ n : Nat, vs = [v, .int n] ∧ IsT C H t v ∧ n ≤ t.ins.length ∧ t.Fits ∧ (Ty.mk (t.ins.drop n) t.atom).Fits ∧ Made C H Q (.mk (t.ins.drop n) t.atom)
def sp_Type___getitem__ (K : PySem.W.Frag) (C : Addr) : Sp := fun vs H Q _ => ∃ v t, ∃ n : Nat, vs = [v, .int n] ∧ IsT C H t v ∧ n < t.ins.length ∧ t.Fits ∧ ∀ s w H', Same H H' → t.ins[n]? = some s → IsT C H' s w → Q w H'
def sp_Type___len__ (K : PySem.W.Frag) (C : Addr) : Sp := fun vs H Q _ => ∃ v t, vs = [v] ∧ IsT C H t v ∧ t.Fits ∧ Q (.int (t.places.length : Nat)) H
def sp_Type___eq__ (K : PySem.W.Frag) (C : Addr) : Sp := fun vs H Q _ => ∃ v u t o, vs = [v, u] ∧ IsT C H t v ∧ IsT C H o u ∧ t.Fits ∧ o.Fits ∧ ∀ H', Same H H' → Q (.bl (decide (t.text = o.text))) H'
/-- the atoms in order -/
def IsAtoms (t : Ty) (ys : List Str) : Prop := ys.Nodup ∧ sortedS ys = true ∧ (∀ x, x ∈ ys ↔ x ∈ t.places) ∧ ys.length ≤ t.places.length
def sp_Type_atoms (K : PySem.W.Frag) (C : Addr) : Sp := fun vs H Q _ => ∃ v t, vs = [v] ∧ IsT C H t v ∧ t.Fits ∧ ∀ p ys H', Same H H' → H' p = some (.tup (ys.map V.str)) → IsAtoms t ys → Q (.ref p) H'
theorem IsTs.app {C : Addr} {H : Hp} : ∀ {l m : List Ty} {rs ss : List V}, IsTs C H l rs → IsTs C H m ss → IsTs C H (l ++ m) (rs ++ ss)
  | [], m, rs, ss, h, k => by
    rw [IsTs] at h
    rw [h]
    exact k
  | t :: r, m, rs, ss, h, k => by
    rw [IsTs] at h
    obtain ⟨w, ws, rfl, h1, h2⟩ := h
    rw [List.cons_append, IsTs]
    exact ⟨w, ws ++ ss, rfl, h1, IsTs.app h2 k⟩
theorem IsTs.drop {C : Addr} {H : Hp} : ∀ (n : Nat) {l : List Ty} {rs : List V}, IsTs C H l rs → IsTs C H (l.drop n) (rs.drop n)
  | 0, _, _, h => h
  | n + 1, [], rs, h => by
    rw [IsTs] at h
    rw [h, List.drop_nil, List.drop_nil, IsTs]
  | n + 1, t :: r, rs, h => by
    rw [IsTs] at h
    obtain ⟨w, ws, rfl, h1, h2⟩ := h
    exact IsTs.drop n h2
theorem IsTs.nil {C : Addr} {H : Hp} : IsTs C H [] [] := by rw [IsTs]
theorem IsTs.cons {C : Addr} {H : Hp} {t : Ty} {l : List Ty} {v : V} {rs : List V} (h : IsT C H t v) (k : IsTs C H l rs) : IsTs C H (t :: l) (v :: rs) := by
  rw [IsTs]
  exact ⟨v, rs, rfl, h, k⟩
theorem IsTs.len_eq {C : Addr} {H : Hp} {l : List Ty} {rs : List V} (h : IsTs C H l rs) : rs.length = l.length := h.len
theorem Fits_ins_len {t : Ty} (f : t.Fits) : t.ins.length ≤ 14 := by
  cases t with
  | mk i a =>
    have n := f.few
    rw [Ty.places, List.length_append] at n
    have := Ty.len_placesL i
    show i.length ≤ 14
    have e : [a].length = 1 := rfl
    omega
theorem cut_drop (xs : List V) (n : Nat) (h : n ≤ xs.length) : cutV xs (some (n : Int)) none = xs.drop n := by
  unfold cutV
  rw [HT.sIx_nat, HT.sIx_none, Nat.min_eq_left h]
  exact List.take_of_length_le (by rw [List.length_drop]; exact Nat.le_refl _)

section
variable {P : Program} {w : World} {K : PySem.W.Frag} {mg : Str → Option Value} {base : Heap} {C_Type : Addr}
theorem ok_is_integer (T : Txt K mg C_Type) {f : Addr} {fd : FuncData} (F : Fun K "is_integer" "is_integer" s_is_integer f fd) : FnOk P w K mg base CX0 1 f fd ["value"] (sp_is_integer K) := by
  have nd := sc_is_integer.nd
  refine F.ok sc_is_integer (fun vs H Q E h => ?_) (fun cdv A outer s H vs Q E hr h => ?_)
  · obtain ⟨i, rfl, _⟩ := h
    rfl
  · obtain ⟨i, rfl, hi, q⟩ := h
    refine ⟨_, (pss_one (ps_ret (pe_and (pe_callB call_isi (by rfl) T.b_isinstance (by decide +kernel) (pa_cons (pv 0) (pa_cons (pe_bltn (v := .ty "int") (u := .type "int") (by rfl) T.b_int (by decide +kernel) rfl) pa_nil))) (pe_and (pe_not (pe_callB call_isi (by rfl) T.b_isinstance (by decide +kernel) (pa_cons (pv 0) (pa_cons (pe_bltn (v := .ty "bool") (u := .type "bool") (by rfl) T.b_bool (by decide +kernel) rfl) pa_nil)))) (pe_one (pe_cmpR op_lt (pe_callB call_abs (by rfl) T.b_abs (by decide +kernel) (pa_cons (pv 0) pa_nil)) (pe_op op_powW pe_int pe_int) (nomark _))))))), ?_⟩
    refine ⟨.int i, rfl, .int i, .ty "int", .type "int", .type "int", true, rfl, .ty _, .base (.int i), kit_ty (by decide +kernel), true, rfl, iteT ?_⟩
    refine ⟨.int i, rfl, .int i, .ty "bool", .type "int", .type "bool", false, rfl, .ty _, .base (.int i), kit_ty (by decide +kernel), false, rfl, true, rfl, iteT ?_⟩
    refine ⟨.int i, rfl, i, rfl, 10, 60, rfl, rfl, ⟨by decide, by decide +kernel⟩, _, _, rfl, rfl, ?_⟩
    have e : decide ((if (i : Int) < 0 then -(i : Int) else (i : Int)) < 10 ^ 60) = true := decide_eq_true (by rw [if_neg (by omega)]; exact Int.lt_of_le_of_lt (Int.ofNat_le.mpr hi) (by decide +kernel))
    have z := q H (Same.refl H)
    rw [← e] at z
    exact z
end

section
variable {P : Program} {w : World} {K : PySem.W.Frag} {mg : Str → Option Value} {base : Heap} {C_Type : Addr}
theorem ok_Type_plain (T : Txt K mg C_Type) (i_Type___init__ : MakC P w K mg base C_Type 4 ["self", "inputs", "atom"] (sp_Type___init__ K C_Type)) {f : Addr} {fd : FuncData} (F : Fun K "plain" "Type.plain" s_Type_plain f fd) : FnOk P w K mg base CX0 6 f fd ["cls", "atom"] (sp_Type_plain K C_Type) := by
  have nd := sc_Type_plain.nd
  refine F.ok sc_Type_plain (fun vs H Q E h => ?_) (fun cdv A outer s H vs Q E hr h => ?_)
  · obtain ⟨a, rfl, _⟩ := h
    rfl
  · obtain ⟨a, rfl, fit, q⟩ := h
    refine ⟨_, (pss_one (ps_ret (pe_makeV i_Type___init__ (hr.mono (by first | decide | omega)) (pv 0) (pa_cons (pe_tup pa_nil) (pa_cons (pv 1) pa_nil))))), ?_⟩
    refine ⟨_, rfl, rfl, Nat.zero_le _, fun p hp => ?_⟩
    refine ⟨.str a, rfl, make_ty upd_same IsTs.nil fit fun x H' s h => q x H' (((Same.refl H).new hp).trans s) h⟩
end

section
variable {P : Program} {w : World} {K : PySem.W.Frag} {mg : Str → Option Value} {base : Heap} {C_Type : Addr}
theorem ok_Type___getitem__ (T : Txt K mg C_Type) (c_is_integer : CalN P w K mg base "is_integer" 1 ["value"] (sp_is_integer K)) {f : Addr} {fd : FuncData} (F : Fun K "__getitem__" "Type.__getitem__" s_Type___getitem__ f fd) : FnOk P w K mg base CX0 2 f fd ["self", "at"] (sp_Type___getitem__ K C_Type) := by
  have nd := sc_Type___getitem__.nd
  refine F.ok sc_Type___getitem__ (fun vs H Q E h => ?_) (fun cdv A outer s H vs Q E hr h => ?_)
  · obtain ⟨v, t, n, rfl, _⟩ := h
    rfl
  · obtain ⟨v, t, n, rfl, ht, hn, ft, q⟩ := h
    refine ⟨_, (pss_cons (ps_if (PW.pt (pw_or (pt_not (pt_val (pe_callN c_is_integer (hr.mono (by first | decide | omega)) rfl (pa_cons (pv 1) pa_nil)))) (pw_or1 (pt_not (pt_chain op_le op_lt pe_int (pv 1) (pe_callB call_len (by rfl) T.b_len (by decide +kernel) (pa_cons (pe_fld (pv 0) rfl) pa_nil))))))) (pss_one ps_never) pss_nil)
      (pss_one (ps_ret (pe_ix ix_tup (pe_fld (pv 0) rfl) (pv 1) (fun _ _ => rfl))))), ?_⟩
    obtain ⟨b, dx, p, q', rs, rfl, hb, hp, hl, hq⟩ := ht.at
    have lo := Fits_ins_len ft
    have lr := hl.len
    refine ⟨.int n, rfl, n, rfl, by omega, fun H1 s1 => ⟨true, rfl, iteF ?_⟩⟩
    refine ⟨.int n, rfl, 0, (n : Int), rfl, rfl, true, congrArg V.bl (decide_eq_true (by omega)), iteT ?_⟩
    refine ⟨.ref b, rfl, b, C_Type, dx, _, .ref p, rfl, s1 _ _ hb, T.k_Type, T.x_Type.n_inputs, rfl, .ref p, rs.length, rfl, .inr ⟨rs, SqT.of (s1 _ _ hp), rfl⟩, (n : Int), (rs.length : Int), rfl, rfl, true, congrArg V.bl (decide_eq_true (by omega)), iteF ?_⟩
    refine nx_go ?_
    dsimp only
    have lt : n < rs.length := by omega
    obtain ⟨s, es, hs⟩ := hl.get (List.getElem?_eq_getElem lt)
    exact ⟨.ref b, rfl, b, C_Type, dx, _, .ref p, rfl, s1 _ _ hb, T.k_Type, T.x_Type.n_inputs, rfl, .int n, rfl, p, rs, (n : Int), rs[n], rfl, rfl, SqT.of (s1 _ _ hp), atI_nat (List.getElem?_eq_getElem lt), q s _ H1 s1 es (IsT.same s1 _ _ hs)⟩
end

section
variable {P : Program} {w : World} {K : PySem.W.Frag} {mg : Str → Option Value} {base : Heap} {C_Type : Addr}
theorem ok_Type___len__ (T : Txt K mg C_Type) {f : Addr} {fd : FuncData} (F : Fun K "__len__" "Type.__len__" s_Type___len__ f fd) : FnOk P w K mg base CX0 1 f fd ["self"] (sp_Type___len__ K C_Type) := by
  have nd := sc_Type___len__.nd
  refine F.ok sc_Type___len__ (fun vs H Q E h => ?_) (fun cdv A outer s H vs Q E hr h => ?_)
  · obtain ⟨v, t, rfl, _⟩ := h
    rfl
  · obtain ⟨v, t, rfl, ht, ft, q⟩ := h
    refine ⟨_, (pss_one (ps_ret (pe_callB call_len (by rfl) T.b_len (by decide +kernel) (pa_cons (pe_fld (pv 0) rfl) pa_nil)))), ?_⟩
    obtain ⟨b, dx, p, q', rs, rfl, hb, hp, hl, hq⟩ := ht.at
    refine ⟨.ref b, rfl, b, C_Type, dx, _, .ref q', rfl, hb, T.k_Type, T.x_Type.n_places, rfl, .ref q', _, rfl, .inr ⟨_, SqT.of hq, rfl⟩, ?_⟩
    rw [List.length_map]
    exact q
end

section
variable {P : Program} {w : World} {K : PySem.W.Frag} {mg : Str → Option Value} {base : Heap} {C_Type : Addr}
theorem ok_Type_atoms (T : Txt K mg C_Type) {f : Addr} {fd : FuncData} (F : Fun K "atoms" "Type.atoms" s_Type_atoms f fd) : FnOk P w K mg base CX0 1 f fd ["self"] (sp_Type_atoms K C_Type) := by
  have nd := sc_Type_atoms.nd
  refine F.ok sc_Type_atoms (fun vs H Q E h => ?_) (fun cdv A outer s H vs Q E hr h => ?_)
  · obtain ⟨v, t, rfl, _⟩ := h
    rfl
  · obtain ⟨v, t, rfl, ht, ft, q⟩ := h
    refine ⟨_, (pss_one (ps_ret (pe_callTy call_tuple_of (by rfl) T.b_tuple (by decide +kernel) (pa_cons (pe_callB (cr_sortS rfl) (by rfl) T.b_sorted (by decide +kernel) (pa_cons (pe_callTy (cr_setS rfl) (by rfl) T.b_set (by decide +kernel) (pa_cons (pe_fld (pv 0) rfl) pa_nil)) pa_nil)) pa_nil)))), ?_⟩
    obtain ⟨b, dx, p, q', rs, rfl, hb, hp, hl, hq⟩ := ht.at
    have few := ft.few
    refine ⟨.ref b, rfl, b, C_Type, dx, _, .ref q', rfl, hb, T.k_Type, T.x_Type.n_places, rfl, q', t.places, rfl, SqT.of hq, by omega, fun a L ha hL mem => ?_⟩
    refine ⟨a, L, rfl, upd_same, by omega, fun ys p0 pm nd so hp0 => ?_⟩
    refine ⟨p0, _, rfl, .inl ⟨SqL.of upd_same, fun l hl => ?_⟩⟩
    exact q l ys _ ((((Same.refl H).new ha).new hp0).new hl) upd_same ⟨nd, so, fun x => pm.mem_iff.trans (mem x), by rw [pm.length_eq]; exact hL⟩
end

/-! ### a type's arguments, walked -/
def sp_Type___iter__ (K : PySem.W.Frag) (C : Addr) : Nat → Sp := fun n vs H Q _ => ∃ v t, vs = [v] ∧ IsT C H t v ∧ ∀ it l rs, n ≤ it → H it = none → H l = some (.tup rs) → IsTs C H t.ins rs → Q (.ref it) (upd H it (TiO l it 0))
section
variable {P : Program} {w : World} {K : PySem.W.Frag} {mg : Str → Option Value} {base : Heap} {C_Type : Addr}
theorem ok_Type___iter__ (T : Txt K mg C_Type) {f : Addr} {fd : FuncData} (F : Fun K "__iter__" "Type.__iter__" s_Type___iter__ f fd) : FnOkN P w K mg base CX0 1 f fd ["self"] (sp_Type___iter__ K C_Type) := by
  have nd := sc_Type___iter__.nd
  refine F.okN sc_Type___iter__ (fun n vs H Q E h => ?_) (fun cdv A outer s H vs Q E hr h => ?_)
  · obtain ⟨v, t, rfl, _⟩ := h
    rfl
  · obtain ⟨v, t, rfl, ht, q⟩ := h
    refine ⟨_, (pss_one (ps_ret (pe_callB call_iterT (by rfl) T.b_iter (by decide +kernel) (pa_cons (pe_fld (pv 0) rfl) pa_nil)))), ?_⟩
    obtain ⟨b, dx, p, q', rs, rfl, hb, hp, hl, hq⟩ := ht.at
    exact ⟨.ref b, rfl, b, C_Type, dx, _, .ref p, rfl, hb, T.k_Type, T.x_Type.n_inputs, rfl, p, rs, rfl, SqT.of hp, fun it n1 n2 => q it p rs n2 n1 hp hl⟩
end

/-- == of a type and a type, or anything else -/
def Odd (K : PySem.W.Frag) (C : Addr) (H : Hp) (u : V) : Prop := ∃ t0, TyX K H u t0 ∧ PySem.W.kitOne K t0 (.ref C) = some false
def sp_Type_eqX (K : PySem.W.Frag) (C : Addr) : Sp := fun vs H Q _ => ∃ v u t, vs = [v, u] ∧ IsT C H t v ∧ ((∃ o, IsT C H o u ∧ ∀ H', Same H H' → Q (.bl (decide (t.text = o.text))) H') ∨ (Odd K C H u ∧ ∀ H', Same H H' → Q (.bl false) H'))
section
variable {P : Program} {w : World} {K : PySem.W.Frag} {mg : Str → Option Value} {base : Heap} {C_Type : Addr}
theorem ok_Type___eq__ (T : Txt K mg C_Type) {f : Addr} {fd : FuncData} (F : Fun K "__eq__" "Type.__eq__" s_Type___eq__ f fd) : FnOk P w K mg base CX0 1 f fd ["self", "other"] (sp_Type_eqX K C_Type) := by
  have nd := sc_Type___eq__.nd
  refine F.ok sc_Type___eq__ (fun vs H Q E h => ?_) (fun cdv A outer s H vs Q E hr h => ?_)
  · obtain ⟨v, u, t, rfl, _⟩ := h
    rfl
  · obtain ⟨v, u, t, rfl, ht, h⟩ := h
    refine ⟨_, (pss_one (ps_ret (pe_and (pe_callB call_isi (by rfl) T.b_isinstance (by decide +kernel) (pa_cons (pv 1) (pa_cons (pe_glob (v := .ref C_Type) rfl T.c_Type rfl) pa_nil))) (pe_one (pe_cmpR op_eq (pe_fld (pv 0) rfl) (pe_fld (pv 1) rfl) (nomark _)))))), ?_⟩
    obtain ⟨b, dx, p, q', rs, rfl, hb, _⟩ := ht.at
    rcases h with ⟨o, ho, q⟩ | ⟨⟨t0, ty, no⟩, q⟩
    · obtain ⟨bo, dxo, po, qo, rso, rfl, hbo, _⟩ := ho.at
      refine ⟨.ref bo, rfl, .ref bo, .ref C_Type, .ref C_Type, .ref C_Type, true, rfl, .own _, ty_of_ins T.k_Type T.x_Type hbo, kit_self _, true, rfl, iteT ?_⟩
      refine ⟨.ref b, rfl, b, C_Type, dx, _, .str t.text, rfl, hb, T.k_Type, T.x_Type.n_text, rfl, .ref bo, rfl, bo, C_Type, dxo, _, .str o.text, rfl, hbo, T.k_Type, T.x_Type.n_text, rfl, ?_⟩
      refine ⟨rfl, ?_⟩
      rw [show decide (V.str t.text = V.str o.text) = decide (t.text = o.text) by rw [Bool.eq_iff_iff]; simp]
      exact q H (Same.refl H)
    · refine ⟨u, rfl, u, .ref C_Type, t0, .ref C_Type, false, rfl, .own _, ty, no, false, rfl, iteF ?_⟩
      exact q H (Same.refl H)
end

def sp_Type___str__ (_ : PySem.W.Frag) (C : Addr) : Sp := fun vs H Q _ => ∃ v t, vs = [v] ∧ IsT C H t v ∧ Q (.str t.text) H
section
variable {P : Program} {w : World} {K : PySem.W.Frag} {mg : Str → Option Value} {base : Heap} {C_Type : Addr}
theorem ok_Type___str__ (T : Txt K mg C_Type) {f : Addr} {fd : FuncData} (F : Fun K "__str__" "Type.__str__" s_Type___str__ f fd) : FnOk P w K mg base CX0 1 f fd ["self"] (sp_Type___str__ K C_Type) := by
  have nd := sc_Type___str__.nd
  refine F.ok sc_Type___str__ (fun vs H Q E h => ?_) (fun cdv A outer s H vs Q E hr h => ?_)
  · obtain ⟨v, t, rfl, _⟩ := h
    rfl
  · obtain ⟨v, t, rfl, ht, q⟩ := h
    refine ⟨_, (pss_one (ps_ret (pe_callTy SkE.call_str_str (by rfl) T.b_str (by decide +kernel) (pa_cons (pe_fld (pv 0) rfl) pa_nil)))), ?_⟩
    obtain ⟨b, dx, p, q', rs, rfl, hb, _⟩ := ht.at
    exact ⟨.ref b, rfl, b, C_Type, dx, _, .str t.text, rfl, hb, T.k_Type, T.x_Type.n_text, rfl, _, rfl, q⟩
end


end My
namespace My
open PySem PySem.Spec PyProof.Rows L2 TL
set_option pp.maxSteps 3000
set_option pp.deepTerms false
section
variable {X : Cx}
theorem ps_setLc2D {i : Nat} {y : Str} {py : Pos} {elt tg iter tg1 iter1 : Expr} {ifs ifs1 : List Expr} {scope : Scope} {own : List (Str × Nat)} {vs1 : List Nat} {pos spos : Pos} {wi : TI} {wi1 : Dep TI} {g g1 : Dep TG} {tt tt1 : Dep TT} {te : Dep TE} (hc : X.calm = true) (hN : X.N.Nodup) (hy : X.N[i]? = some y) (hyl : X.env.scope.names.lookup y = some .local)
    (hsw : swapsWith (.ListComp elt [⟨tg, iter, ifs, 0⟩, ⟨tg1, iter1, ifs1, 0⟩] scope pos) (some (.Name y py)) spos.line X.env = pure true) (hi : PI X tg iter wi) (ok : BlkOk X.N X.env.scope scope own) (hv : ∀ i ∈ vs1, i ∈ own.map (·.2))
    (hg : ∀ (s : Shared) (H : Hp) (C : Addr) (cl : List (Str × Addr)) (fp : List Addr), PG (X.blk s H scope (compEnvC scope cl C X.env) fp) tg (g s H C cl fp)) (ht : ∀ (s : Shared) (H : Hp) (C : Addr) (cl : List (Str × Addr)) (fp : List Addr), PTs (X.blk s H scope (compEnvC scope cl C X.env) fp) ifs (tt s H C cl fp))
    (hi1 : ∀ (s : Shared) (H : Hp) (C : Addr) (cl : List (Str × Addr)) (fp : List Addr), PI (X.blk s H scope (compEnvC scope cl C X.env) fp) tg1 iter1 (wi1 s H C cl fp))
    (hg1 : ∀ (s : Shared) (H : Hp) (C : Addr) (cl : List (Str × Addr)) (fp : List Addr), PG (X.blk s H scope (compEnvC scope cl C X.env) fp) tg1 (g1 s H C cl fp)) (ht1 : ∀ (s : Shared) (H : Hp) (C : Addr) (cl : List (Str × Addr)) (fp : List Addr), PTs (X.blk s H scope (compEnvC scope cl C X.env) fp) ifs1 (tt1 s H C cl fp))
    (he : ∀ (s : Shared) (H : Hp) (C : Addr) (cl : List (Str × Addr)) (fp : List Addr), PE (X.blk s H scope (compEnvC scope cl C X.env) fp) elt (te s H C cl fp)) (hs : ∀ x, foldedSetIterable iter X.env x = pure x := by intro _; rfl) (hs1 : ∀ env x, foldedSetIterable iter1 env x = pure x := by intro _ _; rfl)
    (eg : ∀ s H C cl fp, g s H C cl fp = g.at X := by intros; rfl) (et : ∀ s H C cl fp, tt s H C cl fp = tt.at X := by intros; rfl) (ei : ∀ s H C cl fp, wi1 s H C cl fp = wi1.at X := by intros; rfl) (eg1 : ∀ s H C cl fp, g1 s H C cl fp = g1.at X := by intros; rfl) (et1 : ∀ s H C cl fp, tt1 s H C cl fp = tt1.at X := by intros; rfl)
    (ee : ∀ s H C cl fp, te s H C cl fp = te.at X := by intros; rfl) :
    PS X (.Assign [.Name y py] (.ListComp elt [⟨tg, iter, ifs, 0⟩, ⟨tg1, iter1, ifs1, 0⟩] scope pos) spos) (tAsg (tLc2 wi (g.at X) (tt.at X) (wi1.at X) (g1.at X) (tt1.at X) (te.at X) (own.map (·.2)) vs1) (gName i)) :=
  ps_setLc2 hc hN hy hyl hsw hi ok hv (fun s H C cl fp => eg s H C cl fp ▸ hg s H C cl fp) (fun s H C cl fp => et s H C cl fp ▸ ht s H C cl fp) (fun s H C cl fp => ei s H C cl fp ▸ hi1 s H C cl fp) (fun s H C cl fp => eg1 s H C cl fp ▸ hg1 s H C cl fp) (fun s H C cl fp => et1 s H C cl fp ▸ ht1 s H C cl fp)
    (fun s H C cl fp => ee s H C cl fp ▸ he s H C cl fp) hs hs1
end

/-! ### the atoms at positive and at negative places -/
namespace Ty
mutual
def pos : Ty → List Str
  | .mk i a => a :: negL i
def neg : Ty → List Str
  | .mk i _ => posL i
def posL : List Ty → List Str
  | [] => []
  | t :: r => pos t ++ posL r
def negL : List Ty → List Str
  | [] => []
  | t :: r => neg t ++ negL r
end
end Ty
/-- the row of the words of S, in order, at most m -/
def IsSet (S : List Str) (m : Nat) (ys : List Str) : Prop := ys.Nodup ∧ sortedS ys = true ∧ (∀ x, x ∈ ys ↔ x ∈ S) ∧ ys.length ≤ m
def spr_signed (S : Ty → List Str) (n : Nat) (C : Addr) : Sp := fun vs H Q _ => ∃ v t, vs = [v] ∧ IsT C H t v ∧ t.order < n ∧ t.Fits ∧ ∀ p ys H', Same H H' → H' p = some (.tup (ys.map V.str)) → IsSet (S t) t.places.length ys → Q (.ref p) H'
def spr_Type_positive (n : Nat) (_ : PySem.W.Frag) (C : Addr) : Sp := spr_signed Ty.pos n C
def spr_Type_negative (n : Nat) (_ : PySem.W.Frag) (C : Addr) : Sp := spr_signed Ty.neg n C
def sp_Type_positive (K : PySem.W.Frag) (C : Addr) : Sp := spr_Type_positive 6 K C
def sp_Type_negative (K : PySem.W.Frag) (C : Addr) : Sp := spr_Type_negative 6 K C
theorem Ty.mem_posL {x : Str} : ∀ l : List Ty, x ∈ Ty.posL l ↔ ∃ t ∈ l, x ∈ t.pos
  | [] => by rw [Ty.posL]; simp
  | t :: r => by rw [Ty.posL, List.mem_append, Ty.mem_posL r]; simp
theorem Ty.mem_negL {x : Str} : ∀ l : List Ty, x ∈ Ty.negL l ↔ ∃ t ∈ l, x ∈ t.neg
  | [] => by rw [Ty.negL]; simp
  | t :: r => by rw [Ty.negL, List.mem_append, Ty.mem_negL r]; simp
theorem Ty.mem_pos {x : Str} (t : Ty) : x ∈ t.pos ↔ x = t.atom ∨ ∃ u ∈ t.ins, x ∈ u.neg := by
  cases t with
  | mk i a => rw [Ty.pos, List.mem_cons, Ty.mem_negL]; rfl
theorem Ty.mem_neg {x : Str} (t : Ty) : x ∈ t.neg ↔ ∃ u ∈ t.ins, x ∈ u.pos := by
  cases t with
  | mk i a => rw [Ty.neg, Ty.mem_posL]; rfl
theorem Ty.places_at (t : Ty) : t.places = Ty.placesL t.ins ++ [t.atom] := by
  cases t with
  | mk i a => rw [Ty.places]; rfl
theorem Ty.Fits.of_ins {t u : Ty} (f : t.Fits) (h : u ∈ t.ins) : u.Fits := by
  cases t with
  | mk i a => exact f.ins h
theorem Ty.order_of_ins {t u : Ty} (h : u ∈ t.ins) : u.order + 1 ≤ t.order := by
  cases t with
  | mk i a => rw [Ty.order]; exact Ty.low_ins h
theorem Ty.take_len (l : List Ty) (i : Nat) : (Ty.placesL (l.take i)).length ≤ (Ty.placesL l).length := by
  have e : l = l.take i ++ l.drop i := (List.take_append_drop i l).symm
  have : (Ty.placesL l).length = (Ty.placesL (l.take i)).length + (Ty.placesL (l.drop i)).length := by
    rw [← List.length_append, ← Ty.placesL_append, ← e]
  omega
/-- what is gathered from the rows of the arguments -/
def Gath (S : Ty → List Str) (l : List Ty) (L : List Str) : Prop := (∀ x, x ∈ L ↔ ∃ t ∈ l, x ∈ S t) ∧ L.length ≤ (Ty.placesL l).length
section
variable {P : Program} {w : World} {K : PySem.W.Frag} {mg : Str → Option Value} {base : Heap} {C_Type : Addr}
theorem ok_Type_posneg (T : Txt K mg C_Type) {f p f2 p2 : Addr} {fd fd2 : FuncData} (F : Fun K "positive" "Type.positive" s_Type_positive f fd) (M : PropOf K C_Type "positive" p f) (B : Binds K fd ["self"] [])
    (F2 : Fun K "negative" "Type.negative" s_Type_negative f2 fd2) (M2 : PropOf K C_Type "negative" p2 f2) (B2 : Binds K fd2 ["self"] []) :
    ∀ n : Nat, FnOk P w K mg base CX0 (1 + 2 * n) f fd ["self"] (spr_Type_positive n K C_Type) ∧ FnOk P w K mg base CX0 (1 + 2 * n) f2 fd2 ["self"] (spr_Type_negative n K C_Type)
  | 0 => by
    refine ⟨F.ok sc_Type_positive (fun vs H Q E h => ?_) (fun cdv A outer s H vs Q E hr h => ?_), F2.ok sc_Type_negative (fun vs H Q E h => ?_) (fun cdv A outer s H vs Q E hr h => ?_)⟩ <;> (obtain ⟨_, _, _, _, z, _⟩ := h; exact absurd z (Nat.not_lt_zero _))
  | n + 1 => by
    have ih := ok_Type_posneg T F M B F2 M2 B2 n
    have p_Type_positive : PrpC P w K mg base C_Type "positive" (1 + 2 * n) ["self"] (spr_Type_positive n K C_Type) := ⟨_, _, _, ih.1, M, B⟩
    have p_Type_negative : PrpC P w K mg base C_Type "negative" (1 + 2 * n) ["self"] (spr_Type_negative n K C_Type) := ⟨_, _, _, ih.2, M2, B2⟩
    rw [show 1 + 2 * (n + 1) = (2 + 2 * n) + 1 by omega]
    refine ⟨F.ok (k := 2 + 2 * n) sc_Type_positive (fun vs H Q E h => ?_) (fun cdv A outer s H vs Q E hr h => ?_), F2.ok (k := 2 + 2 * n) sc_Type_negative (fun vs H Q E h => ?_) (fun cdv A outer s H vs Q E hr h => ?_)⟩
    · obtain ⟨v, t, rfl, _⟩ := h
      rfl
    · obtain ⟨v, t, rfl, ht, lo, ft, q⟩ := h
      have nd := sc_Type_positive.nd
      refine ⟨_, (pss_cons (ps_setLc2D (i := 1) (own := [("one", 2), ("word", 3)]) (vs1 := [3]) (by rfl) nd rfl rfl (sw_true rfl rfl rfl (by decide +kernel)) (pi_tup (pe_fld (pv 0) rfl)) (blkOk_by (own := [("one", 2), ("word", 3)]) (N := ["self", "inner", "one", "word"]) (sc := (defScope s_Type_positive)) (by decide +kernel)) (by decide) (fun _ _ _ _ _ => pg_name (i := 2) nd rfl (Or.inl rfl)) (fun _ _ _ _ _ => pts_nil) (fun _ _ _ _ _ => (pi_tup (pe_propC p_Type_negative T.k_Type (hr.mono (by first | decide | omega)) (pv 2)))) (fun _ _ _ _ _ => pg_name (i := 3) nd rfl (Or.inl rfl)) (fun _ _ _ _ _ => pts_nil) (fun _ _ _ _ _ => (pv 3)))
      (pss_one (ps_ret (pe_callTy call_tuple_of (by rfl) T.b_tuple (by decide +kernel) (pa_cons (pe_callB (cr_sortS rfl) (by rfl) T.b_sorted (by decide +kernel) (pa_cons (pe_callTy (cr_setE rfl) (by rfl) T.b_set (by decide +kernel) (pa_cons (pe_op op_cat (pe_lst (pa_cons (pe_fld (pv 0) rfl) pa_nil)) (pv 1)) pa_nil)) pa_nil)) pa_nil))))), ?_⟩
      obtain ⟨b, dx, p, q', rs, rfl, hb, hp, hl, hq⟩ := ht.at
      have lr := hl.len
      refine cut_set (fun v H' => ∃ D L, v = .ref D ∧ H' D = some (.lst (L.map V.str)) ∧ Gath Ty.neg t.ins L ∧ Same H H') (fun Q' q' => ?_) ?_
      · refine ⟨.ref b, rfl, b, C_Type, dx, _, .ref p, rfl, hb, T.k_Type, T.x_Type.n_inputs, rfl, p, rfl, ⟨rs, SqT.of hp⟩, fun D hD => ?_⟩
        have few := ft.few
        rw [Ty.places_at, List.length_append] at few
        have few : (Ty.placesL t.ins).length + 1 ≤ 15 := few
        refine walk_tup (xs := rs) (fun i H' => ∃ L, H' D = some (.lst (L.map V.str)) ∧ Gath Ty.neg (t.ins.take i) L ∧ Same H H') ?_ (fun i H' _ hP => ?_) (fun i y H' hy hP => ?_) (fun H' hP => ?_)
        · exact ⟨[], by rw [upd_same]; rfl, ⟨fun x => by simp, Nat.zero_le _⟩, (Same.refl H).mut hD⟩
        · obtain ⟨_, _, _, sm⟩ := hP
          exact SqT.of (sm _ _ hp)
        · obtain ⟨L, hD1, ⟨gm, gl⟩, s1⟩ := hP
          obtain ⟨u, eu, hu⟩ := hl.get hy
          have um := List.mem_of_getElem? eu
          have hu1 := IsT.same s1 u y hu
          obtain ⟨b', dx', p', q', rs', rfl, hb', _⟩ := hu1.at
          refine ⟨rfl, tyes ?_⟩
          have tk : (Ty.placesL (t.ins.take (i + 1))).length = (Ty.placesL (t.ins.take i)).length + u.places.length := by
            rw [take_next eu, Ty.placesL_append, Ty.placesL_cons, Ty.placesL_nil, List.append_nil, List.length_append]
          have tl := Ty.take_len t.ins (i + 1)
          refine ⟨.ref b', rfl, b', dx', _, rfl, hb', .ref b', u, rfl, hu1, by have := Ty.order_of_ins um; omega, ft.of_ins um, fun p2 ys H2 s2 hp2 is => ?_⟩
          obtain ⟨_, _, ym, yl⟩ := is
          refine ⟨p2, rfl, ⟨_, SqT.of hp2⟩, ?_⟩
          refine walk_tup (xs := ys.map V.str) (fun j H3 => H3 D = some (.lst ((L ++ ys.take j).map V.str)) ∧ Same H H3 ∧ H3 p2 = some (.tup (ys.map V.str))) ?_ (fun i H' _ hP => SqT.of hP.2.2) (fun j y H3 hy2 hP => ?_) (fun H3 hP => ?_)
          · exact ⟨by rw [List.take_zero, List.append_nil]; exact s2 _ _ hD1, s1.trans s2, hp2⟩
          · obtain ⟨hD2, s3, hq2⟩ := hP
            rw [List.getElem?_map] at hy2
            obtain ⟨z, hz, rfl⟩ := Option.map_eq_some_iff.mp hy2
            refine ⟨rfl, tyes ?_⟩
            refine ⟨_, rfl, _, hD2, lt_line' ?_, ?_, s3.mut hD, ?_⟩
            · rw [List.length_map, List.length_append, List.length_take]
              omega
            · rw [upd_same, take_next hz, ← List.append_assoc, List.map_append (l₂ := [z])]
              rfl
            · rw [upd_ne (ne_of hq2 hD2 (fun z => nomatch z))]
              exact hq2
          · obtain ⟨hD2, s3, _⟩ := hP
            rw [List.length_map, List.take_length] at hD2
            refine ⟨L ++ ys, hD2, ⟨fun x => ?_, by rw [List.length_append]; omega⟩, s3⟩
            rw [List.mem_append, gm, ym, take_next eu]
            simp only [List.mem_append, List.mem_singleton]
            constructor
            · rintro (⟨t', h1, h2⟩ | h)
              · exact ⟨t', .inl h1, h2⟩
              · exact ⟨u, .inr rfl, h⟩
            · rintro ⟨t', h1 | rfl, h2⟩
              · exact .inl ⟨t', h1, h2⟩
              · exact .inr h2
        · obtain ⟨L, hD1, g, s1⟩ := hP
          rw [lr, List.take_length] at g
          exact q' _ _ ⟨D, L, rfl, hD1, g, s1⟩
      rintro v H3 ⟨D, L, rfl, hD3, ⟨gm, gl⟩, s3⟩
      have few := ft.few
      rw [Ty.places_at, List.length_append] at few
      have few : (Ty.placesL t.ins).length + 1 ≤ 15 := few
      have hb3 := s3 _ _ hb
      refine ⟨.ref b, rfl, b, C_Type, dx, _, .str t.atom, rfl, hb3, T.k_Type, T.x_Type.n_atom, rfl, by show 1 ≤ sizeLine; decide, fun d1 h1 => ?_⟩
      refine ⟨.ref D, rfl, d1, D, [.str t.atom], L.map V.str, rfl, rfl, upd_same, by rw [upd_ne (ne_of_none hD3 h1)]; exact hD3, lt_line (by rw [List.length_map]; show 1 + _ ≤ _; omega), fun d2 h2 => ?_⟩
      have s5 := (s3.new (o := .lst [.str t.atom]) h1).new (o := .lst ([V.str t.atom] ++ L.map V.str)) h2
      refine ⟨d2, t.atom :: L, rfl, .inr (SqL.of (by rw [upd_same]; rfl)), by rw [List.length_cons]; omega, fun a L2 ha hL mem => ?_⟩
      rw [List.length_cons] at hL
      refine ⟨a, L2, rfl, upd_same, by omega, fun ys p0 pm nd so hp0 => ?_⟩
      refine ⟨p0, _, rfl, .inl ⟨SqL.of upd_same, fun l hl => ?_⟩⟩
      refine q l ys _ (((s5.new ha).new hp0).new hl) upd_same ⟨nd, so, fun x => (pm.mem_iff.trans (mem x)).trans ?_, ?_⟩
      · rw [List.mem_cons, gm, Ty.mem_pos]
      · rw [pm.length_eq, Ty.places_at, List.length_append]
        show _ ≤ _ + 1
        omega
    · obtain ⟨v, t, rfl, _⟩ := h
      rfl
    · obtain ⟨v, t, rfl, ht, lo, ft, q⟩ := h
      have nd := sc_Type_negative.nd
      refine ⟨_, (pss_cons (ps_setLc2D (i := 1) (own := [("one", 2), ("word", 3)]) (vs1 := [3]) (by rfl) nd rfl rfl (sw_true rfl rfl rfl (by decide +kernel)) (pi_tup (pe_fld (pv 0) rfl)) (blkOk_by (own := [("one", 2), ("word", 3)]) (N := ["self", "inner", "one", "word"]) (sc := (defScope s_Type_negative)) (by decide +kernel)) (by decide) (fun _ _ _ _ _ => pg_name (i := 2) nd rfl (Or.inl rfl)) (fun _ _ _ _ _ => pts_nil) (fun _ _ _ _ _ => (pi_tup (pe_propC p_Type_positive T.k_Type (hr.mono (by first | decide | omega)) (pv 2)))) (fun _ _ _ _ _ => pg_name (i := 3) nd rfl (Or.inl rfl)) (fun _ _ _ _ _ => pts_nil) (fun _ _ _ _ _ => (pv 3)))
      (pss_one (ps_ret (pe_callTy call_tuple_of (by rfl) T.b_tuple (by decide +kernel) (pa_cons (pe_callB (cr_sortS rfl) (by rfl) T.b_sorted (by decide +kernel) (pa_cons (pe_callTy (cr_setE rfl) (by rfl) T.b_set (by decide +kernel) (pa_cons (pv 1) pa_nil)) pa_nil)) pa_nil))))), ?_⟩
      obtain ⟨b, dx, p, q', rs, rfl, hb, hp, hl, hq⟩ := ht.at
      have lr := hl.len
      refine cut_set (fun v H' => ∃ D L, v = .ref D ∧ H' D = some (.lst (L.map V.str)) ∧ Gath Ty.pos t.ins L ∧ Same H H') (fun Q' q' => ?_) ?_
      · refine ⟨.ref b, rfl, b, C_Type, dx, _, .ref p, rfl, hb, T.k_Type, T.x_Type.n_inputs, rfl, p, rfl, ⟨rs, SqT.of hp⟩, fun D hD => ?_⟩
        have few := ft.few
        rw [Ty.places_at, List.length_append] at few
        have few : (Ty.placesL t.ins).length + 1 ≤ 15 := few
        refine walk_tup (xs := rs) (fun i H' => ∃ L, H' D = some (.lst (L.map V.str)) ∧ Gath Ty.pos (t.ins.take i) L ∧ Same H H') ?_ (fun i H' _ hP => ?_) (fun i y H' hy hP => ?_) (fun H' hP => ?_)
        · exact ⟨[], by rw [upd_same]; rfl, ⟨fun x => by simp, Nat.zero_le _⟩, (Same.refl H).mut hD⟩
        · obtain ⟨_, _, _, sm⟩ := hP
          exact SqT.of (sm _ _ hp)
        · obtain ⟨L, hD1, ⟨gm, gl⟩, s1⟩ := hP
          obtain ⟨u, eu, hu⟩ := hl.get hy
          have um := List.mem_of_getElem? eu
          have hu1 := IsT.same s1 u y hu
          obtain ⟨b', dx', p', q', rs', rfl, hb', _⟩ := hu1.at
          refine ⟨rfl, tyes ?_⟩
          have tk : (Ty.placesL (t.ins.take (i + 1))).length = (Ty.placesL (t.ins.take i)).length + u.places.length := by
            rw [take_next eu, Ty.placesL_append, Ty.placesL_cons, Ty.placesL_nil, List.append_nil, List.length_append]
          have tl := Ty.take_len t.ins (i + 1)
          refine ⟨.ref b', rfl, b', dx', _, rfl, hb', .ref b', u, rfl, hu1, by have := Ty.order_of_ins um; omega, ft.of_ins um, fun p2 ys H2 s2 hp2 is => ?_⟩
          obtain ⟨_, _, ym, yl⟩ := is
          refine ⟨p2, rfl, ⟨_, SqT.of hp2⟩, ?_⟩
          refine walk_tup (xs := ys.map V.str) (fun j H3 => H3 D = some (.lst ((L ++ ys.take j).map V.str)) ∧ Same H H3 ∧ H3 p2 = some (.tup (ys.map V.str))) ?_ (fun i H' _ hP => SqT.of hP.2.2) (fun j y H3 hy2 hP => ?_) (fun H3 hP => ?_)
          · exact ⟨by rw [List.take_zero, List.append_nil]; exact s2 _ _ hD1, s1.trans s2, hp2⟩
          · obtain ⟨hD2, s3, hq2⟩ := hP
            rw [List.getElem?_map] at hy2
            obtain ⟨z, hz, rfl⟩ := Option.map_eq_some_iff.mp hy2
            refine ⟨rfl, tyes ?_⟩
            refine ⟨_, rfl, _, hD2, lt_line' ?_, ?_, s3.mut hD, ?_⟩
            · rw [List.length_map, List.length_append, List.length_take]
              omega
            · rw [upd_same, take_next hz, ← List.append_assoc, List.map_append (l₂ := [z])]
              rfl
            · rw [upd_ne (ne_of hq2 hD2 (fun z => nomatch z))]
              exact hq2
          · obtain ⟨hD2, s3, _⟩ := hP
            rw [List.length_map, List.take_length] at hD2
            refine ⟨L ++ ys, hD2, ⟨fun x => ?_, by rw [List.length_append]; omega⟩, s3⟩
            rw [List.mem_append, gm, ym, take_next eu]
            simp only [List.mem_append, List.mem_singleton]
            constructor
            · rintro (⟨t', h1, h2⟩ | h)
              · exact ⟨t', .inl h1, h2⟩
              · exact ⟨u, .inr rfl, h⟩
            · rintro ⟨t', h1 | rfl, h2⟩
              · exact .inl ⟨t', h1, h2⟩
              · exact .inr h2
        · obtain ⟨L, hD1, g, s1⟩ := hP
          rw [lr, List.take_length] at g
          exact q' _ _ ⟨D, L, rfl, hD1, g, s1⟩
      rintro v H3 ⟨D, L, rfl, hD3, ⟨gm, gl⟩, s3⟩
      have few := ft.few
      rw [Ty.places_at, List.length_append] at few
      have few : (Ty.placesL t.ins).length + 1 ≤ 15 := few
      refine ⟨.ref D, rfl, D, L, rfl, .inr (SqL.of hD3), by omega, fun a L2 ha hL mem => ?_⟩
      refine ⟨a, L2, rfl, upd_same, by omega, fun ys p0 pm nd so hp0 => ?_⟩
      refine ⟨p0, _, rfl, .inl ⟨SqL.of upd_same, fun l hl => ?_⟩⟩
      refine q l ys _ (((s3.new ha).new hp0).new hl) upd_same ⟨nd, so, fun x => (pm.mem_iff.trans (mem x)).trans ?_, ?_⟩
      · rw [gm, Ty.mem_neg]
      · rw [pm.length_eq, Ty.places_at, List.length_append]
        show _ ≤ _ + 1
        omega
end


end My
namespace My
open PySem PySem.Spec PyProof.Rows L2 TL
set_option pp.maxSteps 3000
set_option pp.deepTerms false
/-! ### what a list that changes leaves -/
/-- what no list's change touches -/
def Firm : HO → Prop
  | .tup _ => True
  | .ins _ _ fs => fs ≠ []
  | _ => False
def Held (H H' : Hp) : Prop := ∀ b o, H b = some o → Firm o → H' b = some o
mutual
theorem IsT.held {C : Addr} {H H' : Hp} (s : Held H H') : ∀ (t : Ty) (v : V), IsT C H t v → IsT C H' t v
  | .mk i a, v, h => by
    rw [IsT] at h ⊢
    obtain ⟨x, dx, p, q, rs, e, hx, hp, hi, hq⟩ := h
    exact ⟨x, dx, p, q, rs, e, s _ _ hx (fun z => nomatch z), s _ _ hp trivial, IsTs.held s i rs hi, s _ _ hq trivial⟩
theorem IsTs.held {C : Addr} {H H' : Hp} (s : Held H H') : ∀ (l : List Ty) (rs : List V), IsTs C H l rs → IsTs C H' l rs
  | [], rs, h => by
    rw [IsTs] at h ⊢
    exact h
  | t :: r, rs, h => by
    rw [IsTs] at h ⊢
    obtain ⟨v, vs, e, h1, h2⟩ := h
    exact ⟨v, vs, e, IsT.held s t v h1, IsTs.held s r vs h2⟩
end
theorem held_lst {H : Hp} {D : Addr} {xs : List V} {o : HO} (h : H D = some (.lst xs)) : Held H (upd H D o) := fun b u hb f => by
  rw [upd_ne (ne_of hb h (fun e => by rw [e] at f; exact f))]
  exact hb
theorem _root_.L2.Same.held {H H' : Hp} (s : Same H H') : Held H H' := fun b o h _ => s b o h

/-! ### the parts -/
namespace Ty
mutual
def parts : Ty → List Ty
  | .mk i a => .mk i a :: partsL i
def partsL : List Ty → List Ty
  | [] => []
  | t :: r => parts t ++ partsL r
end
theorem mem_partsL {u : Ty} : ∀ l : List Ty, u ∈ partsL l ↔ ∃ t ∈ l, u ∈ t.parts
  | [] => by rw [partsL]; simp
  | t :: r => by rw [partsL, List.mem_append, mem_partsL r]; simp
theorem mem_parts {u : Ty} (t : Ty) : u ∈ t.parts ↔ u = t ∨ ∃ s ∈ t.ins, u ∈ s.parts := by
  cases t with
  | mk i a => rw [parts, List.mem_cons, mem_partsL]; rfl
mutual
theorem parts_len : ∀ t : Ty, t.parts.length = t.places.length
  | .mk i a => by rw [parts, places, List.length_cons, List.length_append, partsL_len i]; rfl
theorem partsL_len : ∀ l : List Ty, (partsL l).length = (placesL l).length
  | [] => by rw [partsL, placesL]; rfl
  | t :: r => by rw [partsL, placesL, List.length_append, List.length_append, parts_len t, partsL_len r]
end
end Ty
/-- the parts in the order of their texts, each once -/
structure IsParts (t : Ty) (us : List Ty) : Prop where
  nd : (us.map Ty.text).Nodup
  so : sortedS (us.map Ty.text) = true
  sub : ∀ u ∈ us, u ∈ t.parts
  all : ∀ u ∈ t.parts, u.text ∈ us.map Ty.text
  few : us.length ≤ t.places.length
theorem dc_lst {K : PySem.W.Frag} {a : Addr} {xs : List V} {g : TG} {tt : TT} {tk tv : TE} {vs : List Nat} {σ : L2.St} {H1 : Hp} {D : Addr} {Qd : Hp → Prop} (Pv : Nat → Hp → Prop) (h0 : Pv 0 (upd H1 D (.dK []))) (hl : ∀ i H, i ≤ xs.length → Pv i H → SqL K H a xs)
    (hs : ∀ i x H, xs[i]? = some x → Pv i H → g x (wipe σ vs) H fun σ2 H2 => wipe σ2 vs = wipe σ vs ∧ tt σ2 H2 fun b H3 =>
      if b = true then tk σ2 H3 fun y H4 => tv σ2 H4 fun z H5 => ∃ kvs k, y = kV k ∧ H5 D = some (.dK kvs) ∧ kvs.length < sizeLine ∧ Pv (i + 1) (upd H5 D (.dK (putK kvs k z))) else Pv (i + 1) H3) (hd : ∀ H, Pv xs.length H → Qd H) :
    ∃ W : Nat → Nat → Hp → Prop, (∃ m, W 0 m (upd H1 D (.dK []))) ∧ ∀ i m H, W i m H →
      ((Itl K a).stop i H ∧ Qd H) ∨ ((Itl K a).go i H ∧ ∃ Nx : Hp → Prop, (∀ H', Nx H' → ∃ m', m' < m ∧ W (i + 1) m' H') ∧ ∀ x H', (Itl K a).yld i H x H' → g x (wipe σ vs) H' fun σ2 H2 => wipe σ2 vs = wipe σ vs ∧ tt σ2 H2 fun b H3 =>
        if b = true then tk σ2 H3 fun y H4 => tv σ2 H4 fun z H5 => ∃ kvs k, y = kV k ∧ H5 D = some (.dK kvs) ∧ kvs.length < sizeLine ∧ Nx (upd H5 D (.dK (putK kvs k z))) else Nx H3) := by
  refine ⟨fun i m H => m = xs.length - i ∧ i ≤ xs.length ∧ Pv i H, ⟨xs.length, by simp, Nat.zero_le _, h0⟩, ?_⟩
  rintro i m H ⟨rfl, hi, p⟩
  have q := hl i H hi p
  by_cases hlt : i < xs.length
  · refine .inr ⟨⟨xs, xs[i], q, by simp [hlt]⟩, Pv (i + 1), fun H' p' => ⟨xs.length - (i + 1), by omega, rfl, hlt, p'⟩, fun x H' y => ?_⟩
    obtain ⟨e, y⟩ := y
    subst e
    exact hs i x _ (y xs q) p
  · have e : i = xs.length := by omega
    subst e
    exact .inl ⟨⟨xs, q, Nat.le_refl _⟩, hd H p⟩
theorem putK_keys {κ : Type} [DecidableEq κ] {kvs : List (κ × V)} {k : κ} {v x : V} (h : valV kvs k = some x) : (putK kvs k v).map (·.1) = kvs.map (·.1) := by
  unfold putK
  rw [valV_any, h, if_pos (by rfl), List.map_map]
  refine List.map_congr_left fun p _ => ?_
  show (if p.1 = k then (p.1, v) else p).1 = p.1
  split <;> rfl
/-- a dict from texts to what stands for them -/
def IsBy (W : Str → V → Prop) (ts : List Str) (kvs : List (Key × V)) : Prop :=
  (∃ ks : List Str, kvs.map (·.1) = ks.map Sum.inr ∧ ks.Nodup ∧ ks.length ≤ ts.length ∧ ∀ k, k ∈ ks ↔ k ∈ ts) ∧ (∀ k v, valV kvs (Sum.inr k) = some v → W k v) ∧ ∀ k ∈ ts, ∃ v, valV kvs (Sum.inr k) = some v
theorem IsBy.put {W : Str → V → Prop} {ts : List Str} {kvs : List (Key × V)} {k : Str} {v : V} (h : IsBy W ts kvs) (hv : W k v) : IsBy W (ts ++ [k]) (putK kvs (Sum.inr k) v) := by
  obtain ⟨⟨ks, e, nd, le, mem⟩, vals, all⟩ := h
  refine ⟨?_, fun j x hx => ?_, fun j hj => ?_⟩
  · cases q : valV kvs (Sum.inr k) with
    | none =>
      have out : k ∉ ks := fun hk => by
        obtain ⟨v, hv⟩ := all k ((mem k).mp hk)
        rw [q] at hv
        cases hv
      refine ⟨ks ++ [k], by rw [putK_new _ q, List.map_append, e, List.map_append]; rfl, ?_, by rw [List.length_append, List.length_append]; exact Nat.add_le_add_right le 1, fun j => by rw [List.mem_append, List.mem_append, mem]⟩
      refine List.nodup_append.mpr ⟨nd, List.nodup_cons.mpr ⟨List.not_mem_nil, List.nodup_nil⟩, fun a ha b hb => ?_⟩
      rw [List.mem_singleton.mp hb]
      exact fun z => out (z ▸ ha)
    | some x =>
      refine ⟨ks, by rw [putK_keys q]; exact e, nd, Nat.le_trans le (by rw [List.length_append]; exact Nat.le_add_right _ _), fun j => ?_⟩
      rw [List.mem_append, List.mem_singleton]
      refine ⟨fun h => .inl ((mem j).mp h), fun h => h.elim (mem j).mpr fun z => ?_⟩
      rw [z]
      have hk : (Sum.inr k : Key) ∈ kvs.map (·.1) := by
        cases r : kvs.any fun kv => decide (kv.1 = (Sum.inr k : Key)) with
        | false =>
          rw [valV_any, q] at r
          cases r
        | true =>
          obtain ⟨p, hp, ep⟩ := List.any_eq_true.mp r
          exact List.mem_map.mpr ⟨p, hp, of_decide_eq_true ep⟩
      rw [e] at hk
      obtain ⟨k', hk', ek⟩ := List.mem_map.mp hk
      cases ek
      exact hk'
  · rw [valV_put] at hx
    by_cases e2 : j = k
    · rw [if_pos (by rw [e2])] at hx
      cases hx
      rw [e2]
      exact hv
    · rw [if_neg (fun z => e2 (Sum.inr.inj z))] at hx
      exact vals j x hx
  · rw [valV_put]
    by_cases e2 : j = k
    · exact ⟨v, by rw [if_pos (by rw [e2])]⟩
    · rw [if_neg (fun z => e2 (Sum.inr.inj z))]
      rcases List.mem_append.mp hj with h | h
      · exact all j h
      · exact absurd (List.mem_singleton.mp h) e2
def spr_Type_parts (n : Nat) (_ : PySem.W.Frag) (C : Addr) : Sp := fun vs H Q _ => ∃ v t, vs = [v] ∧ IsT C H t v ∧ t.order < n ∧ t.Fits ∧ ∀ p rs us H', Same H H' → H' p = some (.tup rs) → IsTs C H' us rs → IsParts t us → Q (.ref p) H'
def sp_Type_parts (K : PySem.W.Frag) (C : Addr) : Sp := spr_Type_parts 6 K C
section
variable {P : Program} {w : World} {K : PySem.W.Frag} {mg : Str → Option Value} {base : Heap} {C_Type : Addr}
theorem ok_Type_parts (T : Txt K mg C_Type) (p_Type_text : PrpC P w K mg base C_Type "text" 1 ["self"] (getSp C_Type "_text")) {f p : Addr} {fd : FuncData} (F : Fun K "parts" "Type.parts" s_Type_parts f fd) (M : PropOf K C_Type "parts" p f) (B : Binds K fd ["self"] []) :
    ∀ n : Nat, FnOk P w K mg base CX0 (3 + 2 * n) f fd ["self"] (spr_Type_parts n K C_Type)
  | 0 => by
    refine F.ok sc_Type_parts (fun vs H Q E h => ?_) (fun cdv A outer s H vs Q E hr h => ?_) <;> (obtain ⟨_, _, _, _, z, _⟩ := h; exact absurd z (Nat.not_lt_zero _))
  | n + 1 => by
    have ih := ok_Type_parts T p_Type_text F M B n
    have p_Type_parts : PrpC P w K mg base C_Type "parts" (3 + 2 * n) ["self"] (spr_Type_parts n K C_Type) := ⟨_, _, _, ih, M, B⟩
    have nd := sc_Type_parts.nd
    rw [show 3 + 2 * (n + 1) = (4 + 2 * n) + 1 by omega]
    refine F.ok (k := 4 + 2 * n) sc_Type_parts (fun vs H Q E h => ?_) (fun cdv A outer s H vs Q E hr h => ?_)
    · obtain ⟨v, t, rfl, _⟩ := h
      rfl
    · obtain ⟨v, t, rfl, ht, lo, ft, q⟩ := h
      refine ⟨_, (pss_cons (ps_setLc2D (i := 1) (own := [("one", 3), ("part", 4)]) (vs1 := [4]) (by rfl) nd rfl rfl (sw_true rfl rfl rfl (by decide +kernel)) (pi_tup (pe_fld (pv 0) rfl)) (blkOk_by (own := [("one", 3), ("part", 4)]) (N := ["self", "inner", "by_text", "one", "part", "text"]) (sc := (defScope s_Type_parts)) (by decide +kernel)) (by decide) (fun _ _ _ _ _ => pg_name (i := 3) nd rfl (Or.inl rfl)) (fun _ _ _ _ _ => pts_nil) (fun _ _ _ _ _ => (pi_tup (pe_propC p_Type_parts T.k_Type (hr.mono (by first | decide | omega)) (pv 3)))) (fun _ _ _ _ _ => pg_name (i := 4) nd rfl (Or.inl rfl)) (fun _ _ _ _ _ => pts_nil) (fun _ _ _ _ _ => (pv 4)))
      (pss_cons (ps_set (i := 2) nd rfl (.inr rfl) (pe_dc (own := [("part", 4)]) (by rfl) nd (pi_list (pe_op op_cat (pe_lst (pa_cons (pv 0) pa_nil)) (pv 1))) (blkOk_by (own := [("part", 4)]) (N := ["self", "inner", "by_text", "one", "part", "text"]) (sc := (defScope s_Type_parts)) (by decide +kernel)) (fun _ _ _ _ _ => pg_name (i := 4) nd rfl (Or.inl rfl)) (fun _ _ _ _ _ => pts_nil) (fun _ _ _ _ _ => (pe_propC p_Type_text T.k_Type (hr.mono (by first | decide | omega)) (pv 4))) (fun _ _ _ _ _ => (pv 4))))
      (pss_one (ps_ret (pe_callTy call_tuple_of (by rfl) T.b_tuple (by decide +kernel) (pa_cons (pe_lcD (own := [("text", 5)]) (by rfl) nd (pi_list (pe_callB (call_sortedD rfl) (by rfl) T.b_sorted (by decide +kernel) (pa_cons (pv 2) pa_nil))) (blkOk_by (own := [("text", 5)]) (N := ["self", "inner", "by_text", "one", "part", "text"]) (sc := (defScope s_Type_parts)) (by decide +kernel)) (fun _ _ _ _ _ => pg_name (i := 5) nd rfl (Or.inl rfl)) (fun _ _ _ _ _ => pts_nil) (fun _ _ _ _ _ => (pe_dget (by first | exact Nat.lt_of_le_of_lt (Nat.add_le_add_left (by decide : 1 ≤ 64) _) hr.units | exact Nat.lt_of_le_of_lt (Nat.add_le_add_left (by decide : 4 ≤ 64) _) hr.units | exact Nat.lt_of_le_of_lt (Nat.add_le_add_left (by decide : 7 ≤ 64) _) hr.units) (pv 2) (pv 5) (fun _ _ => rfl)))) pa_nil)))))), ?_⟩
      obtain ⟨b, dx, p, q', rs, rfl, hb, hp, hl, hq⟩ := ht.at
      have lr := hl.len
      have few := ft.few
      rw [Ty.places_at, List.length_append] at few
      have few : (Ty.placesL t.ins).length + 1 ≤ 15 := few
      refine cut_set (fun v H' => ∃ D rs us, v = .ref D ∧ H' D = some (.lst rs) ∧ IsTs C_Type H' us rs ∧ (∀ u ∈ us, ∃ s ∈ t.ins, u ∈ s.parts) ∧ (∀ s ∈ t.ins, ∀ u ∈ s.parts, u.text ∈ us.map Ty.text) ∧ us.length ≤ (Ty.placesL t.ins).length ∧ Same H H') (fun Q' q' => ?_) ?_
      · refine ⟨.ref b, rfl, b, C_Type, dx, _, .ref p, rfl, hb, T.k_Type, T.x_Type.n_inputs, rfl, p, rfl, ⟨rs, SqT.of hp⟩, fun D hD => ?_⟩
        refine walk_tup (xs := rs) (fun i H' => ∃ rs us, H' D = some (.lst rs) ∧ IsTs C_Type H' us rs ∧ (∀ u ∈ us, ∃ s ∈ t.ins.take i, u ∈ s.parts) ∧ (∀ s ∈ t.ins.take i, ∀ u ∈ s.parts, u.text ∈ us.map Ty.text) ∧ us.length ≤ (Ty.placesL (t.ins.take i)).length ∧ Same H H') ?_ (fun i H' _ hP => ?_) (fun i y H' hy hP => ?_) (fun H' hP => ?_)
        · exact ⟨[], [], upd_same, IsTs.nil, fun u h => (by cases h), fun s h => (by rw [List.take_zero] at h; cases h), Nat.zero_le _, (Same.refl H).mut hD⟩
        · obtain ⟨_, _, _, _, _, _, _, sm⟩ := hP
          exact SqT.of (sm _ _ hp)
        · obtain ⟨rs1, us, hD1, hus, g1, g2, gl, s1⟩ := hP
          obtain ⟨u, eu, hu⟩ := hl.get hy
          have um := List.mem_of_getElem? eu
          have hu1 := IsT.same s1 u y hu
          obtain ⟨b', dx', p', q', rs', rfl, hb', _⟩ := hu1.at
          refine ⟨rfl, tyes ?_⟩
          have tk : (Ty.placesL (t.ins.take (i + 1))).length = (Ty.placesL (t.ins.take i)).length + u.places.length := by
            rw [take_next eu, Ty.placesL_append, Ty.placesL_cons, Ty.placesL_nil, List.append_nil, List.length_append]
          have tl := Ty.take_len t.ins (i + 1)
          refine ⟨.ref b', rfl, b', dx', _, rfl, hb', .ref b', u, rfl, hu1, by have := Ty.order_of_ins um; omega, ft.of_ins um, fun p2 rs2 us2 H2 s2 hp2 hus2 is => ?_⟩
          have l2 := hus2.len
          have l1 := hus.len
          have f2 := is.few
          refine ⟨p2, rfl, ⟨_, SqT.of hp2⟩, ?_⟩
          refine walk_tup (xs := rs2) (fun j H3 => H3 D = some (.lst (rs1 ++ rs2.take j)) ∧ Same H H3 ∧ Held H2 H3) ?_ (fun i H' _ hP => SqT.of (hP.2.2 _ _ hp2 trivial)) (fun j y H3 hy2 hP => ?_) (fun H3 hP => ?_)
          · exact ⟨by rw [List.take_zero, List.append_nil]; exact s2 _ _ hD1, s1.trans s2, (Same.refl H2).held⟩
          · obtain ⟨hD2, s3, hh⟩ := hP
            refine ⟨rfl, tyes ?_⟩
            refine ⟨_, rfl, _, hD2, lt_line' ?_, ?_, s3.mut hD, fun b o e f => held_lst hD2 _ _ (hh b o e f) f⟩
            · rw [List.length_append, List.length_take]
              omega
            · rw [upd_same, take_next hy2, ← List.append_assoc]
          · obtain ⟨hD2, s3, hh⟩ := hP
            rw [List.take_length] at hD2
            refine ⟨rs1 ++ rs2, us ++ us2, hD2, (IsTs.held hh _ _ (IsTs.same s2 _ _ hus)).app (IsTs.held hh _ _ hus2), fun u' h => ?_, fun s hs u' h => ?_, by rw [List.length_append]; omega, s3⟩
            · rw [take_next eu]
              rcases List.mem_append.mp h with h | h
              · obtain ⟨s, h1, h2⟩ := g1 u' h
                exact ⟨s, List.mem_append_left _ h1, h2⟩
              · exact ⟨u, List.mem_append_right _ (List.mem_singleton.mpr rfl), is.sub u' h⟩
            · rw [take_next eu] at hs
              rw [List.map_append]
              rcases List.mem_append.mp hs with h1 | h1
              · exact List.mem_append_left _ (g2 s h1 u' h)
              · rw [List.mem_singleton.mp h1] at h
                exact List.mem_append_right _ (is.all u' h)
        · obtain ⟨rs1, us, hD1, hus, g1, g2, gl, s1⟩ := hP
          rw [lr, List.take_length] at g1 g2 gl
          exact q' _ _ ⟨D, rs1, us, rfl, hD1, hus, g1, g2, gl, s1⟩
      rintro v H1 ⟨D, rs1, us, rfl, hD1, hus, g1, g2, gl, s1⟩
      have l1 := hus.len
      -- the dict
      refine cut_set (fun v H' => ∃ d kvs, v = .ref d ∧ H' d = some (.dK kvs) ∧ IsBy (fun k v => ∃ u, u ∈ t.parts ∧ u.text = k ∧ IsT C_Type H1 u v) ((t :: us).map Ty.text) kvs ∧ Same H1 H') (fun Q' q' => ?_) ?_
      · refine ⟨.ref b, rfl, by show 1 ≤ sizeLine; decide, fun d1 h1 => ?_⟩
        refine ⟨.ref D, rfl, d1, D, [.ref b], rs1, rfl, rfl, upd_same, by rw [upd_ne (ne_of_none hD1 h1)]; exact hD1, lt_line (by show 1 + _ ≤ _; omega), fun d2 h2 => ?_⟩
        have sA := ((Same.refl H1).new (o := .lst [.ref b]) h1).new (o := .lst ([V.ref b] ++ rs1)) h2
        refine ⟨d2, rfl, ⟨_, SqL.of upd_same⟩, fun d hd => ?_⟩
        have hall : IsTs C_Type H1 (t :: us) (V.ref b :: rs1) := .cons (IsT.same s1 _ _ ht) hus
        have in_ : ∀ u ∈ t :: us, u ∈ t.parts := fun u h => (Ty.mem_parts t).mpr ((List.mem_cons.mp h).imp id (g1 u))
        refine dc_lst (xs := V.ref b :: rs1) (fun i H' => ∃ kvs, H' d = some (.dK kvs) ∧ IsBy (fun k v => ∃ u, u ∈ t.parts ∧ u.text = k ∧ IsT C_Type H1 u v) (((t :: us).take i).map Ty.text) kvs ∧ kvs.length ≤ i ∧ Same H1 H' ∧ H' d2 = some (.lst (V.ref b :: rs1))) ?_ (fun i H' _ hP => ?_) (fun i y H' hy hP => ?_) (fun H' hP => ?_)
        · exact ⟨[], upd_same, ⟨⟨[], rfl, List.nodup_nil, Nat.zero_le _, fun k => by rw [List.take_zero]; rfl⟩, fun k v e => (by cases e), fun k e => (by rw [List.take_zero] at e; cases e)⟩, Nat.le_refl _, sA.new hd, by rw [upd_ne (ne_of_none upd_same hd), upd_same]; rfl⟩
        · obtain ⟨_, _, _, _, _, e⟩ := hP
          exact SqL.of e
        · obtain ⟨kvs, hd1, by_, kl, sm, e2⟩ := hP
          obtain ⟨u, eu, hu⟩ := hall.get hy
          obtain ⟨b', dx', p', q', rs', rfl, hb', _⟩ := (IsT.same sm u y hu).at
          have io := lt_of_get hy
          have io : i < rs1.length + 1 := io
          refine ⟨rfl, tyes ?_⟩
          refine ⟨.ref b', rfl, b', dx', _, rfl, hb', b', dx', _, .str u.text, rfl, hb', rfl, .ref b', rfl, kvs, Sum.inr u.text, rfl, hd1, lt_line' (by omega), _, upd_same, ?_, Nat.le_trans (length_putK _ _ _) (by omega), ?_, ?_⟩
          · rw [take_next eu, List.map_append]
            exact by_.put ⟨u, in_ u (List.mem_of_getElem? eu), rfl, hu⟩
          · exact fun a o e => by
              rw [upd_ne (fun z => by
                rw [z] at e
                have := sA _ _ e
                rw [hd] at this
                cases this)]
              exact sm a o e
          · rw [upd_ne (ne_of e2 hd1 (fun z => nomatch z))]
            exact e2
        · obtain ⟨kvs, hd1, by_, kl, sm, e2⟩ := hP
          have e : (V.ref b :: rs1).length = (t :: us).length := by rw [List.length_cons, List.length_cons, l1]
          rw [e, List.take_length] at by_
          exact q' _ _ ⟨d, kvs, rfl, hd1, by_, sm⟩
      rintro v H2 ⟨d, kvs, rfl, hd, ⟨⟨ks, ek, knd, kle, kmem⟩, vals, all⟩, s2⟩
      have kl : ks.length ≤ us.length + 1 := by
        rw [List.length_map, List.length_cons] at kle
        exact kle
      refine ⟨.ref d, rfl, d, kvs, ks, rfl, .inl hd, ek, by omega, fun ys p0 pm so hp0 => ?_⟩
      refine ⟨p0, rfl, ⟨_, SqL.of upd_same⟩, fun D2 hD2 => ?_⟩
      have s3 := s2.new (o := .lst (ys.map V.str)) hp0
      have yl : ys.length ≤ us.length + 1 := by rw [pm.length_eq]; exact kl
      refine lc_list (xs := ys.map V.str) (fun i H' => ∃ rs us, H' D2 = some (.lst rs) ∧ IsTs C_Type H1 us rs ∧ us.map Ty.text = ys.take i ∧ (∀ u ∈ us, u ∈ t.parts) ∧ Same (upd H2 p0 (.lst (ys.map V.str))) H') ?_ (fun i H' _ hP => ?_) (fun i y H' hy hP => ?_) (fun H' hP => ?_)
      · exact ⟨[], [], upd_same, IsTs.nil, rfl, fun u h => (by cases h), (Same.refl _).mut hD2⟩
      · obtain ⟨_, _, _, _, _, _, sm⟩ := hP
        exact SqL.of (sm _ _ upd_same)
      · obtain ⟨rs3, us3, hD3, hus3, et, su, sm⟩ := hP
        rw [List.getElem?_map] at hy
        obtain ⟨k, hk, rfl⟩ := Option.map_eq_some_iff.mp hy
        have km : k ∈ (t :: us).map Ty.text := (kmem k).mp (pm.mem_iff.mp (List.mem_of_getElem? hk))
        obtain ⟨v, hv⟩ := all k km
        obtain ⟨u, hu, eu, hut⟩ := vals k v hv
        have io := lt_of_get hk
        have e3 : us3.length ≤ i := by
          have := congrArg List.length et
          rw [List.length_map, List.length_take] at this
          omega
        have hd4 : H' d = some (.dK kvs) := sm _ _ (by rw [upd_ne (ne_of_none hd hp0)]; exact hd)
        refine ⟨rfl, tyes ?_⟩
        refine ⟨.ref d, rfl, .str k, rfl, d, v, rfl, .inl ⟨kvs, Sum.inr k, .inl hd4, rfl, hv.symm⟩, rs3, hD3, lt_line' (by rw [hus3.len]; omega), rs3 ++ [v], us3 ++ [u], upd_same, hus3.app (.cons hut .nil), ?_, fun x h => ?_, sm.mut hD2⟩
        · rw [List.map_append, et, take_next hk]
          show _ ++ [u.text] = _
          rw [eu]
        · rcases List.mem_append.mp h with h | h
          · exact su x h
          · rw [List.mem_singleton.mp h]
            exact hu
      · obtain ⟨rs3, us3, hD3, hus3, et, su, sm⟩ := hP
        rw [List.length_map, List.take_length] at et
        refine ⟨D2, rs3, rfl, .inl ⟨SqL.of hD3, fun l hl9 => ?_⟩⟩
        have s9 := ((s3.trans sm).new (o := .tup rs3) hl9)
        refine q l rs3 us3 _ (s1.trans s9) upd_same (IsTs.same s9 _ _ hus3) ⟨by rw [et]; exact pm.nodup_iff.mpr knd, by rw [et]; exact so, su, fun u hu => ?_, ?_⟩
        · rw [et, pm.mem_iff, kmem, List.map_cons, List.mem_cons]
          rcases (Ty.mem_parts t).mp hu with e | ⟨s, h1, h2⟩
          · exact .inl (by rw [e])
          · exact .inr (g2 s h1 u h2)
        · have e := congrArg List.length et
          rw [List.length_map] at e
          rw [e, pm.length_eq, Ty.places_at, List.length_append]
          show _ ≤ _ + 1
          omega
end


end My
namespace My
open PySem PySem.Spec PyProof.Rows L2 TL
set_option pp.maxSteps 3000
set_option pp.deepTerms false
/-! ### whether a type is a part -/
theorem inV_dec {a : Str} {ys : List Str} : inV (.str a) (ys.map V.str) = decide (a ∈ ys) := by
  rw [Bool.eq_iff_iff, decide_eq_true_eq]
  unfold inV
  rw [List.any_eq_true]
  constructor
  · rintro ⟨v, hv, e⟩
    obtain ⟨y, hy, rfl⟩ := List.mem_map.mp hv
    have : y = a := by simpa [eqV] using e
    rw [← this]
    exact hy
  · exact fun h => ⟨.str a, List.mem_map_of_mem h, by simp [eqV]⟩
theorem IsParts.mem {t : Ty} {us : List Ty} (h : IsParts t us) (x : Str) : x ∈ us.map Ty.text ↔ x ∈ t.parts.map Ty.text := by
  constructor
  · intro hx
    obtain ⟨u, hu, e⟩ := List.mem_map.mp hx
    exact List.mem_map.mpr ⟨u, h.sub u hu, e⟩
  · intro hx
    obtain ⟨u, hu, e⟩ := List.mem_map.mp hx
    rw [← e]
    exact h.all u hu
def sp_Type___contains__ (K : PySem.W.Frag) (C : Addr) : Sp := fun vs H Q _ => ∃ v u t, vs = [v, u] ∧ IsT C H t v ∧ t.Fits ∧ ((∃ o, IsT C H o u ∧ ∀ H', Same H H' → Q (.bl (decide (o.text ∈ t.parts.map Ty.text))) H') ∨ (Odd K C H u ∧ ∀ H', Same H H' → Q (.bl false) H'))
section
variable {P : Program} {w : World} {K : PySem.W.Frag} {mg : Str → Option Value} {base : Heap} {C_Type : Addr}
theorem ok_Type___contains__ (T : Txt K mg C_Type) (p_Type_text : PrpC P w K mg base C_Type "text" 1 ["self"] (getSp C_Type "_text")) (p_Type_parts : PrpC P w K mg base C_Type "parts" 15 ["self"] (sp_Type_parts K C_Type)) {f : Addr} {fd : FuncData} (F : Fun K "__contains__" "Type.__contains__" s_Type___contains__ f fd) : FnOk P w K mg base CX0 17 f fd ["self", "x"] (sp_Type___contains__ K C_Type) := by
  have nd := sc_Type___contains__.nd
  refine F.ok sc_Type___contains__ (fun vs H Q E h => ?_) (fun cdv A outer s H vs Q E hr h => ?_)
  · obtain ⟨v, u, t, rfl, _⟩ := h
    rfl
  · obtain ⟨v, u, t, rfl, ht, ft, h⟩ := h
    refine ⟨_, (pss_one (ps_ret (pe_and (pe_callB call_isi (by rfl) T.b_isinstance (by decide +kernel) (pa_cons (pv 1) (pa_cons (pe_glob (v := .ref C_Type) rfl T.c_Type rfl) pa_nil))) (pe_one (pe_cmpR op_in_seq (pe_propC p_Type_text T.k_Type (hr.mono (by first | decide | omega)) (pv 1)) (pe_lcD (own := [("part", 2)]) (by rfl) nd (pi_tup (pe_propC p_Type_parts T.k_Type (hr.mono (by first | decide | omega)) (pv 0))) (blkOk_by (own := [("part", 2)]) (N := ["self", "x", "part"]) (sc := (defScope s_Type___contains__)) (by decide +kernel)) (fun _ _ _ _ _ => pg_name (i := 2) nd rfl (Or.inl rfl)) (fun _ _ _ _ _ => pts_nil) (fun _ _ _ _ _ => (pe_propC p_Type_text T.k_Type (hr.mono (by first | decide | omega)) (pv 2)))) (by rfl)))))), ?_⟩
    obtain ⟨b, dx, p, q', rs, rfl, hb, _⟩ := ht.at
    rcases h with ⟨o, ho, q⟩ | ⟨⟨t0, ty, no⟩, q⟩
    rotate_left
    · refine ⟨u, rfl, u, .ref C_Type, t0, .ref C_Type, false, rfl, .own _, ty, no, false, rfl, iteF ?_⟩
      exact q H (Same.refl H)
    obtain ⟨bo, dxo, po, qo, rso, rfl, hbo, _⟩ := ho.at
    refine ⟨.ref bo, rfl, .ref bo, .ref C_Type, .ref C_Type, .ref C_Type, true, rfl, .own _, ty_of_ins T.k_Type T.x_Type hbo, kit_self _, true, rfl, iteT ?_⟩
    refine ⟨.ref bo, rfl, bo, dxo, _, rfl, hbo, bo, dxo, _, .str o.text, rfl, hbo, rfl, .ref b, rfl, b, dx, _, rfl, hb, .ref b, t, rfl, ht, Nat.lt_of_le_of_lt ft.low (by decide), ft, fun p1 rs1 us H1 s1 hp1 hus is => ?_⟩
    refine ⟨p1, rfl, ⟨_, SqT.of hp1⟩, fun D hD => ?_⟩
    have l1 := hus.len
    have l2 := is.few
    have l3 := ft.few
    refine lc_tup (xs := rs1) (fun i H' => H' D = some (.lst (((us.take i).map Ty.text).map V.str)) ∧ Same H1 H') ?_ (fun i H' _ hP => SqT.of (hP.2 _ _ hp1)) (fun i y H' hy hP => ?_) (fun H' hP => ?_)
    · exact ⟨by rw [upd_same, List.take_zero]; rfl, (Same.refl H1).mut hD⟩
    · obtain ⟨hD1, sm⟩ := hP
      obtain ⟨u, eu, hu⟩ := hus.get hy
      obtain ⟨b', dx', p', q', rs', rfl, hb', _⟩ := (IsT.same sm u y hu).at
      refine ⟨rfl, tyes ?_⟩
      refine ⟨.ref b', rfl, b', dx', _, rfl, hb', b', dx', _, .str u.text, rfl, hb', rfl, _, hD1, lt_line' ?_, ?_, sm.mut hD⟩
      · rw [List.length_map, List.length_map, List.length_take]
        omega
      · rw [upd_same, take_next eu, List.map_append, List.map_append]
        rfl
    · obtain ⟨hD1, sm⟩ := hP
      rw [l1, List.take_length] at hD1
      refine ⟨D, _, rfl, .inl (SqL.of hD1), rfl, flat_strs _, ?_⟩
      have e : inV (.str o.text) ((us.map Ty.text).map V.str) = decide (o.text ∈ t.parts.map Ty.text) := by
        rw [inV_dec, decide_eq_decide]
        exact is.mem _
      rw [e]
      exact q _ (s1.trans sm)
end


end My
namespace My
open PySem PySem.Spec PyProof.Rows L2 TL
set_option pp.maxSteps 3000
set_option pp.deepTerms false
/-! ### what stands between the arrows -/
abbrev ARR : Str := " -> "
/-- the pieces, those begun, how deep -/
abbrev PSt := List Str × List Str × Int
def pStep (s : PSt) (p : Str) : PSt :=
  if s.2.2 + ((Txt.count p "(" : Int) - (Txt.count p ")" : Int)) = 0 then (s.1 ++ [Txt.join ARR (s.2.1 ++ [p])], [], s.2.2 + ((Txt.count p "(" : Int) - (Txt.count p ")" : Int)))
  else (s.1, s.2.1 ++ [p], s.2.2 + ((Txt.count p "(" : Int) - (Txt.count p ")" : Int)))
def pRun (ps : List Str) : PSt := ps.foldl pStep ([], [], 0)
def piecesOf (x : Str) : List Str := (pRun (Txt.split x ARR)).1 ++ if (pRun (Txt.split x ARR)).2.1 = [] then [] else [Txt.join ARR (pRun (Txt.split x ARR)).2.1]
/-- the text and its pieces are not too long -/
def Small (x : Str) : Prop := x.length ≤ 100000 ∧ (Txt.split x ARR).length ≤ 100000 ∧ ((Txt.split x ARR).map (·.length)).sum ≤ 100000
theorem asg_go2 {i : Nat} {x : V} {σ : L2.St} {H : Hp} {N : L2.St → Hp → Prop} (h : N (σ.set i (some x)) H) : gName i x σ H N := h
theorem pRun_next (ps : List Str) (p : Str) : pRun (ps ++ [p]) = pStep (pRun ps) p := by
  unfold pRun
  rw [List.foldl_append]
  rfl
theorem pRun_small : ∀ (n : Nat) (ps : List Str), ps.length = n → ((pRun ps).2.1.map (·.length)).sum ≤ (ps.map (·.length)).sum ∧ (pRun ps).2.1.length ≤ ps.length ∧ (pRun ps).1.length ≤ ps.length
  | 0, ps, h => by
    rw [List.length_eq_zero_iff.mp h]
    exact ⟨Nat.le_refl _, Nat.le_refl _, Nat.le_refl _⟩
  | n + 1, ps, h => by
    obtain ⟨qs, p, rfl⟩ : ∃ qs p, ps = qs ++ [p] := ⟨ps.dropLast, ps.getLast (fun e => by rw [e] at h; cases h), (List.dropLast_concat_getLast _).symm⟩
    rw [List.length_append] at h
    obtain ⟨a, b, c⟩ := pRun_small n qs (Nat.succ.inj h)
    rw [pRun_next]
    unfold pStep
    split
    · simp only [List.map_append, List.sum_append, List.length_append, List.map_nil, List.sum_nil, List.length_nil, List.length_cons, List.map_cons, List.sum_cons]
      omega
    · simp only [List.map_append, List.sum_append, List.length_append, List.map_nil, List.sum_nil, List.length_nil, List.length_cons, List.map_cons, List.sum_cons]
      omega
theorem sum_take (ps : List Str) (i : Nat) : ((ps.take i).map (·.length)).sum ≤ (ps.map (·.length)).sum := by
  have e : (ps.map (·.length)).sum = ((ps.take i).map (·.length)).sum + ((ps.drop i).map (·.length)).sum := by
    rw [← List.sum_append, ← List.map_append, List.take_append_drop]
  omega
def sp__pieces (_ : PySem.W.Frag) : Sp := fun vs H Q _ => ∃ x, vs = [.str x] ∧ Small x ∧ ∀ p H', Same H H' → H' p = some (.lst ((piecesOf x).map V.str)) → Q (.ref p) H'
section
variable {P : Program} {w : World} {K : PySem.W.Frag} {mg : Str → Option Value} {base : Heap} {C_Type : Addr}
theorem ok__pieces (T : Txt K mg C_Type) {f : Addr} {fd : FuncData} (F : Fun K "_pieces" "_pieces" s__pieces f fd) : FnOk P w K mg base CX0 1 f fd ["text"] (sp__pieces K) := by
  have nd := sc__pieces.nd
  refine F.ok sc__pieces (fun vs H Q E h => ?_) (fun cdv A outer s H vs Q E hr h => ?_)
  · obtain ⟨x, rfl, _⟩ := h
    rfl
  · obtain ⟨x, rfl, ⟨x1, x2, x3⟩, q⟩ := h
    refine ⟨_, (pss_cons (ps_set (i := 1) nd rfl (.inl rfl) (pe_lst pa_nil))
      (pss_cons (ps_set (i := 2) nd rfl (.inl rfl) (pe_lst pa_nil))
      (pss_cons (ps_set (i := 3) nd rfl (.inl rfl) pe_int)
      (pss_cons (ps_for PassesOwn.never rfl (pi_list (pe_split (pv 0) (pe_globE rfl T.g__ARROW))) (pg_name (i := 4) nd rfl (.inl rfl)) (pss_cons (ps_expr (pe_bm PySem.F.plainAttrs_list PySem.F.slot_list_append PySem.F.type_list_append mt_append (pv 2) (pa_cons (pv 4) pa_nil)))
      (pss_cons (ps_aug (i := 3) nd rfl (.inl rfl) (pe_op op_sub (pe_m1 PySem.F.slot_str_count PySem.F.type_str_count mt_count (pv 4) pe_str) (pe_m1 PySem.F.slot_str_count PySem.F.type_str_count mt_count (pv 4) pe_str)) ip_add)
      (pss_one (ps_if (pt_cmpR op_eq (pv 3) pe_int (nomark _)) (pss_cons (ps_expr (pe_bm PySem.F.plainAttrs_list PySem.F.slot_list_append PySem.F.type_list_append mt_append (pv 1) (pa_cons (pe_join (pe_globE rfl T.g__ARROW) (pv 2)) pa_nil)))
      (pss_one (ps_set (i := 2) nd rfl (.inl rfl) (pe_lst pa_nil)))) pss_nil)))))
      (pss_cons (ps_if (pt_truth (pv 2) (by intro _; rfl)) (pss_one (ps_expr (pe_bm PySem.F.plainAttrs_list PySem.F.slot_list_append PySem.F.type_list_append mt_append (pv 1) (pa_cons (pe_join (pe_globE rfl T.g__ARROW) (pv 2)) pa_nil)))) pss_nil)
      (pss_one (ps_ret (pv 1)))))))), ?_⟩
    refine ⟨Nat.zero_le _, fun dp hdp => ?_⟩
    refine ⟨Nat.zero_le _, fun db hdb => ?_⟩
    refine asg_go2 ?_
    dsimp only
    have nE : db ≠ dp := fun e => by
      rw [e, upd_same] at hdb
      cases hdb
    change gName 3 (V.int 0) _ _ _
    refine asg_go2 ?_
    dsimp only
    refine ⟨.str x, rfl, ⟨x, rfl⟩, x, ARR, rfl, rfl, by decide +kernel, lt_line (by omega), fun ds hds => ?_⟩
    refine ⟨ds, rfl, ⟨_, SqL.of upd_same⟩, ?_⟩
    have s0 : Same H (upd (upd (upd H dp (.lst [])) db (.lst [])) ds (.lst ((Txt.split x ARR).map V.str))) := (((Same.refl H).new hdp).new hdb).new hds
    have h1 : upd (upd (upd H dp (.lst [])) db (.lst [])) ds (.lst ((Txt.split x ARR).map V.str)) dp = some (.lst []) := by
      have e : upd (upd H dp (.lst [])) db (.lst []) dp = some (.lst []) := by rw [upd_ne (Ne.symm nE), upd_same]
      rw [upd_ne (ne_of_none e hds)]
      exact e
    have h2 : upd (upd (upd H dp (.lst [])) db (.lst [])) ds (.lst ((Txt.split x ARR).map V.str)) db = some (.lst []) := by
      rw [upd_ne (ne_of_none upd_same hds), upd_same]
    have n1 : ds ≠ dp := fun e => by
      rw [e, upd_ne (Ne.symm nE), upd_same] at hds
      cases hds
    have n2 : ds ≠ db := fun e => by
      rw [e, upd_same] at hds
      cases hds
    have h3 : upd (upd (upd H dp (.lst [])) db (.lst [])) ds (.lst ((Txt.split x ARR).map V.str)) ds = some (.lst ((Txt.split x ARR).map V.str)) := upd_same
    generalize upd (upd (upd H dp (.lst [])) db (.lst [])) ds (.lst ((Txt.split x ARR).map V.str)) = G at s0 h1 h2 h3 ⊢
    have nb : H db = none := by
      rw [upd_ne nE] at hdb
      exact hdb
    clear hds hdb
    generalize eps : Txt.split x ARR = ps at h3 x2 x3 ⊢
    refine for_list (xs := ps.map V.str) (fun i σ H' => ∃ db s4, σ = [some (.str x), some (.ref dp), some (.ref db), some (.int (pRun (ps.take i)).2.2), s4] ∧ H' dp = some (.lst ((pRun (ps.take i)).1.map V.str)) ∧ H' db = some (.lst ((pRun (ps.take i)).2.1.map V.str)) ∧
      db ≠ dp ∧ ds ≠ db ∧ H db = none ∧ H' ds = some (.lst (ps.map V.str)) ∧ Same H H') ?_ (fun i σ H' _ hP => ?_) (fun i y σ H' hy hP => ?_) (fun σ H' hP => ?_)
    · exact ⟨db, none, rfl, h1, h2, nE, n2, nb, h3, s0⟩
    · obtain ⟨_, _, _, _, _, _, _, _, e, _⟩ := hP
      exact SqL.of e
    · obtain ⟨db', s4, rfl, hp1, hb1, ne1, ne2, fr, hs1, sm⟩ := hP
      rw [List.getElem?_map] at hy
      obtain ⟨pc, hpc, rfl⟩ := Option.map_eq_some_iff.mp hy
      have io := lt_of_get hpc
      obtain ⟨z1, z2, z3⟩ := pRun_small _ (ps.take i) rfl
      have z4 := sum_take ps i
      rw [List.length_take] at z2 z3
      have nx := pRun_next (ps.take i) pc
      rw [← take_next hpc] at nx
      generalize pRun (ps.take i) = S at hp1 hb1 z1 z2 z3 nx ⊢
      refine asg_go2 ?_
      dsimp only
      refine ⟨.ref db', rfl, .inl ⟨rfl, _, SqL.of hb1⟩, .str pc, rfl, db', _, _, rfl, rfl, hb1, lt_line' (by rw [List.length_map]; omega), ?_⟩
      dsimp only
      refine ⟨.int S.2.2, rfl, .str pc, rfl, ⟨pc, rfl⟩, pc, "(", rfl, rfl, .str pc, rfl, ⟨pc, rfl⟩, pc, ")", rfl, rfl, _, _, rfl, rfl, _, _, rfl, rfl, ?_⟩
      dsimp only
      have hp2 : upd H' db' (.lst (S.2.1.map V.str ++ [V.str pc])) dp = some (.lst (S.1.map V.str)) := by rw [upd_ne (Ne.symm ne1)]; exact hp1
      have hs2 : upd H' db' (.lst (S.2.1.map V.str ++ [V.str pc])) ds = some (.lst (ps.map V.str)) := by rw [upd_ne ne2]; exact hs1
      have hb2 : upd H' db' (.lst (S.2.1.map V.str ++ [V.str pc])) db' = some (.lst ((S.2.1 ++ [pc]).map V.str)) := by rw [upd_same, List.map_append]; rfl
      have sm2 := sm.mut (o := .lst (S.2.1.map V.str ++ [V.str pc])) fr
      generalize upd H' db' (.lst (S.2.1.map V.str ++ [V.str pc])) = G2 at hp2 hs2 hb2 sm2 ⊢
      unfold pStep at nx
      refine ⟨.int (S.2.2 + (Txt.count pc "(" - Txt.count pc ")")), rfl, rfl, _, rfl, ite2 (fun c => ?_) (fun c => ?_)⟩
      · have c0 : S.2.2 + (Txt.count pc "(" - Txt.count pc ")") = 0 := V.int.inj (of_decide_eq_true c)
        rw [if_pos c0] at nx
        have zs : (((S.2.1 ++ [pc]).map (·.length)).sum + (S.2.1 ++ [pc]).length * ARR.length) ≤ 16777216 := by
          have e1 : ARR.length = 4 := by decide +kernel
          have e2 : ((ps.take (i + 1)).map (·.length)).sum = ((ps.take i).map (·.length)).sum + pc.length := by
            rw [take_next hpc, List.map_append, List.sum_append]
            rfl
          have e3 := sum_take ps (i + 1)
          rw [e1, List.map_append, List.sum_append, List.length_append]
          show _ + (pc.length + 0) + (_ + 1) * 4 ≤ _
          omega
        refine ⟨.ref dp, rfl, .inl ⟨rfl, _, SqL.of hp2⟩, ⟨_, rfl⟩, .ref db', rfl, ARR, db', S.2.1 ++ [pc], rfl, rfl, .inl (SqL.of hb2), zs, dp, _, _, rfl, rfl, hp2, lt_line' (by rw [List.length_map]; omega), ?_⟩
        refine ⟨Nat.zero_le _, fun db2 hdb2 => ?_⟩
        refine asg_go2 ?_
        have d2 : db2 ≠ dp := fun e => by
          rw [e, upd_same] at hdb2
          cases hdb2
        have d3 : G2 db2 = none := by
          rw [upd_ne d2] at hdb2
          exact hdb2
        have d4 : ds ≠ db2 := fun e => by
          rw [← e, hs2] at d3
          cases d3
        refine ⟨db2, some (.str pc), ?_, ?_, ?_, d2, d4, sm2.free d3, ?_, (sm2.mut hdp).new hdb2⟩
        · rw [nx]
          rfl
        · rw [nx, upd_ne (Ne.symm d2), upd_same, List.map_append]
          rfl
        · rw [nx, upd_same]
          rfl
        · rw [upd_ne d4, upd_ne n1]
          exact hs2
      · have c0 : ¬ S.2.2 + (Txt.count pc "(" - Txt.count pc ")") = 0 := fun e => c (by rw [e]; exact decide_eq_true rfl)
        rw [if_neg c0] at nx
        refine nx_go ?_
        refine ⟨db', some (.str pc), ?_, ?_, ?_, ne1, ne2, fr, hs2, sm2⟩
        · rw [nx]
          rfl
        · rw [nx]
          exact hp2
        · rw [nx]
          exact hb2
    · obtain ⟨db', s4, rfl, hp1, hb1, ne1, ne2, fr, hs1, sm⟩ := hP
      rw [List.length_map, List.take_length] at hp1 hb1 ⊢
      have ep : piecesOf x = (pRun ps).1 ++ if (pRun ps).2.1 = [] then [] else [Txt.join ARR (pRun ps).2.1] := by
        unfold piecesOf
        rw [eps]
      obtain ⟨z1, z2, z3⟩ := pRun_small _ ps rfl
      generalize pRun ps = S at hp1 hb1 z1 z2 z3 ep ⊢
      dsimp only
      refine ⟨.ref db', rfl, _, .inl ⟨_, SqL.of hb1, rfl⟩, ?_⟩
      cases hS : S.2.1 with
      | nil =>
        rw [hS, if_pos rfl, List.append_nil] at ep
        refine iteF ?_
        refine nx_go ?_
        dsimp only
        rw [← ep] at hp1
        exact ⟨.ref dp, rfl, q dp _ sm hp1⟩
      | cons a l =>
        rw [if_neg (by rw [hS]; exact fun e => nomatch e)] at ep
        refine iteT ?_
        have e1 : ARR.length = 4 := by decide +kernel
        refine ⟨.ref dp, rfl, .inl ⟨rfl, _, SqL.of hp1⟩, ⟨_, rfl⟩, .ref db', rfl, ARR, db', S.2.1, rfl, rfl, .inl (SqL.of hb1), by rw [e1]; omega, dp, _, _, rfl, rfl, hp1, lt_line' (by rw [List.length_map]; omega), ?_⟩
        dsimp only
        refine ⟨.ref dp, rfl, q dp _ (sm.mut hdp) ?_⟩
        rw [upd_same, ep, List.map_append]
        rfl
end


end My
namespace My
open PySem PySem.Spec PyProof.Rows L2 TL
set_option pp.maxSteps 3000
set_option pp.deepTerms false
/-! ### a type read from its text -/
def inner (p : Str) : Str := cutS p (some 1) (some (-1))
theorem cut_last (xs : List V) (v : V) : cutV (xs ++ [v]) none (some (-1)) = xs := by
  unfold cutV
  have l : (xs ++ [v]).length = xs.length + 1 := by rw [List.length_append]; rfl
  have e : HT.sIx (xs ++ [v]).length (xs ++ [v]).length (some (-1)) = xs.length := by
    unfold HT.sIx
    rw [l]
    dsimp only
    rw [if_pos (by decide)]
    omega
  rw [e, HT.sIx_none, List.drop_zero, Nat.sub_zero, List.take_append_of_le_length (Nat.le_refl _), List.take_length]
mutual
/-- the text is read as the type, nested no deeper -/
inductive Reads : Nat → Str → Ty → Prop
  | mk {d : Nat} {x a : Str} {qs : List Str} {l : List Ty} (sm : Small x) (pc : piecesOf x = qs ++ [a]) (rl : ReadsL d qs l) (fit : (Ty.mk l a).Fits) : Reads d x (.mk l a)
/-- a piece is read as the type -/
inductive ReadsP : Nat → Str → Ty → Prop
  | open_ {d : Nat} {p : Str} {t : Ty} (len : p.length ≤ 100000) (s : Txt.startswith p "(" = true) (e : Txt.endswith p ")" = true) (r : Reads d (inner p) t) : ReadsP (d + 1) p t
  | plain {d : Nat} {p : Str} (h : d = 0 ∨ Txt.startswith p "(" = false ∨ Txt.endswith p ")" = false) (fit : (Ty.mk [] p).Fits) : ReadsP d p (.mk [] p)
inductive ReadsL : Nat → List Str → List Ty → Prop
  | nil {d : Nat} : ReadsL d [] []
  | cons {d : Nat} {p : Str} {qs : List Str} {t : Ty} {l : List Ty} (r : ReadsP d p t) (rl : ReadsL d qs l) : ReadsL d (p :: qs) (t :: l)
end
theorem ReadsL.len : ∀ {d : Nat} {qs : List Str} {l : List Ty}, ReadsL d qs l → qs.length = l.length
  | _, _, _, .nil => rfl
  | _, _, _, .cons _ rl => congrArg (· + 1) (ReadsL.len rl)
theorem ReadsL.get : ∀ {d : Nat} {qs : List Str} {l : List Ty} {i : Nat} {p : Str}, ReadsL d qs l → qs[i]? = some p → ∃ t, l[i]? = some t ∧ ReadsP d p t
  | _, _, _, _, _, .nil, e => by cases e
  | _, _, _, 0, _, .cons r _, e => by cases e; exact ⟨_, rfl, r⟩
  | _, _, _, i + 1, _, .cons _ rl, e => ReadsL.get (i := i) rl e
def spr__read_freely (n : Nat) (_ : PySem.W.Frag) (C : Addr) : Sp := fun vs H Q _ => ∃ x t, ∃ d : Nat, vs = [.str x, .int d] ∧ d < n ∧ d ≤ 1000 ∧ Reads d x t ∧ Made C H Q t
def spr__read_piece (n : Nat) (_ : PySem.W.Frag) (C : Addr) : Sp := fun vs H Q _ => ∃ x t, ∃ d : Nat, vs = [.str x, .int d] ∧ d < n ∧ d ≤ 1000 ∧ ReadsP d x t ∧ Made C H Q t
section
variable {P : Program} {w : World} {K : PySem.W.Frag} {mg : Str → Option Value} {base : Heap} {C_Type : Addr}
theorem ok__read_both (T : Txt K mg C_Type) (i_Type___init__ : MakC P w K mg base C_Type 4 ["self", "inputs", "atom"] (sp_Type___init__ K C_Type)) (c__pieces : CalN P w K mg base "_pieces" 1 ["text"] (sp__pieces K)) (k_Type_plain : CmtC P w K mg base C_Type "plain" 6 ["cls", "atom"] (sp_Type_plain K C_Type))
    {f f2 : Addr} {fd fd2 : FuncData} (F : Fun K "_read_freely" "_read_freely" s__read_freely f fd) (M : mg "_read_freely" = some (.ref f)) (B : Binds K fd ["text", "depth"] [])
    (F2 : Fun K "_read_piece" "_read_piece" s__read_piece f2 fd2) (M2 : mg "_read_piece" = some (.ref f2)) (B2 : Binds K fd2 ["piece", "depth"] []) :
    ∀ n : Nat, FnOk P w K mg base CX0 (7 + 2 * n) f fd ["text", "depth"] (spr__read_freely n K C_Type) ∧ FnOk P w K mg base CX0 (8 + 2 * n) f2 fd2 ["piece", "depth"] (spr__read_piece (n + 1) K C_Type) := by
  have piece : ∀ n, FnOk P w K mg base CX0 (7 + 2 * n) f fd ["text", "depth"] (spr__read_freely n K C_Type) → FnOk P w K mg base CX0 (8 + 2 * n) f2 fd2 ["piece", "depth"] (spr__read_piece (n + 1) K C_Type) := fun n ih => by
    have c__read_freely : CalN P w K mg base "_read_freely" (7 + 2 * n) ["text", "depth"] (spr__read_freely n K C_Type) := ⟨_, _, ih, M, F.kp, B⟩
    have nd := sc__read_piece.nd
    rw [show 8 + 2 * n = (7 + 2 * n) + 1 by omega]
    refine F2.ok (k := 7 + 2 * n) sc__read_piece (fun vs H Q E h => ?_) (fun cdv A outer s H vs Q E hr h => ?_)
    · obtain ⟨x, t, d, rfl, _⟩ := h
      rfl
    · obtain ⟨x, t, d, rfl, lo, d1, r, q⟩ := h
      refine ⟨_, (pss_cons (ps_if (PW.pt (pw_and (pt_cmpR op_gt (pv 1) pe_int (nomark _)) (pw_and (pt_val (pe_m1 PySem.F.slot_str_startswith PySem.F.type_str_startswith mt_startswith (pv 0) pe_str)) (pw_and1 (pt_val (pe_m1 PySem.F.slot_str_endswith PySem.F.type_str_endswith mt_endswith (pv 0) pe_str)))))) (pss_one (ps_ret (pe_callN c__read_freely (hr.mono (by first | decide | omega)) rfl (pa_cons (pe_slice sl_str (pv 0) (po_some pe_int) (po_some (pe_un un_neg pe_int))) (pa_cons (pe_op op_sub (pv 1) pe_int) pa_nil))))) pss_nil)
      (pss_one (ps_ret (pe_cmethC k_Type_plain (hr.mono (by first | decide | omega)) (pe_glob (v := .ref C_Type) rfl T.c_Type rfl) (pa_cons (pv 0) pa_nil))))), ?_⟩
      cases r with
      | @open_ d' _ _ len sw ew r =>
        refine ⟨.int ((d' + 1 : Nat) : Int), rfl, _, _, rfl, rfl, true, congrArg V.bl (decide_eq_true (by omega)), iteT ?_⟩
        refine ⟨.str x, rfl, ⟨_, rfl⟩, x, "(", rfl, rfl, true, congrArg V.bl sw, iteT ?_⟩
        refine ⟨.str x, rfl, ⟨_, rfl⟩, x, ")", rfl, rfl, true, congrArg V.bl ew, iteT ?_⟩
        refine ⟨.str x, rfl, 1, rfl, 1, rfl, _, rfl, x, rfl, lt_line (by omega), .int ((d' + 1 : Nat) : Int), rfl, _, _, rfl, rfl, ?_⟩
        exact ⟨inner x, t, d', congrArg (fun i => [V.str (inner x), V.int i]) (by omega), by omega, by omega, r, q⟩
      | plain h fit =>
        refine ⟨.int (d : Int), rfl, _, _, rfl, rfl, _, rfl, ite2 (fun c => ?_) (fun c => ?_)⟩
        · have c0 : d ≠ 0 := by
            have := of_decide_eq_true c
            omega
          refine ⟨.str x, rfl, ⟨_, rfl⟩, x, "(", rfl, rfl, _, rfl, ite2 (fun c2 => ?_) (fun c2 => ?_)⟩
          · have he : Txt.endswith x ")" = false := by
              rcases h with h | h | h
              · exact absurd h c0
              · rw [h] at c2
                cases c2
              · exact h
            refine ⟨.str x, rfl, ⟨_, rfl⟩, x, ")", rfl, rfl, false, congrArg V.bl he, iteF ?_⟩
            refine nx_go ?_
            exact ⟨rfl, .str x, rfl, x, rfl, fit, q⟩
          · refine iteF ?_
            refine nx_go ?_
            exact ⟨rfl, .str x, rfl, x, rfl, fit, q⟩
        · refine iteF ?_
          refine nx_go ?_
          exact ⟨rfl, .str x, rfl, x, rfl, fit, q⟩
  have freely : ∀ n, FnOk P w K mg base CX0 (8 + 2 * n) f2 fd2 ["piece", "depth"] (spr__read_piece (n + 1) K C_Type) → FnOk P w K mg base CX0 (7 + 2 * (n + 1)) f fd ["text", "depth"] (spr__read_freely (n + 1) K C_Type) := fun n ih => by
    have c__read_piece : CalN P w K mg base "_read_piece" (8 + 2 * n) ["piece", "depth"] (spr__read_piece (n + 1) K C_Type) := ⟨_, _, ih, M2, F2.kp, B2⟩
    have nd := sc__read_freely.nd
    rw [show 7 + 2 * (n + 1) = (8 + 2 * n) + 1 by omega]
    refine F.ok (k := 8 + 2 * n) sc__read_freely (fun vs H Q E h => ?_) (fun cdv A outer s H vs Q E hr h => ?_)
    · obtain ⟨x, t, d, rfl, _⟩ := h
      rfl
    · obtain ⟨x, t, d, rfl, lo, d1, r, q⟩ := h
      refine ⟨_, (pss_cons (ps_set (i := 2) nd rfl (.inl rfl) (pe_callN c__pieces (hr.mono (by first | decide | omega)) rfl (pa_cons (pv 0) pa_nil)))
      (pss_cons (ps_setLcD (i := 3) (own := [("piece", 4)]) (by rfl) nd rfl rfl (sw_true rfl rfl rfl (by decide +kernel)) (pi_list (pe_slice sl_list (pv 2) po_none (po_some (pe_un un_neg pe_int)))) (blkOk_by (own := [("piece", 4)]) (N := ["text", "depth", "pieces", "inputs", "piece"]) (sc := (defScope s__read_freely)) (by decide +kernel)) (fun _ _ _ _ _ => pg_name (i := 4) nd rfl (Or.inl rfl)) (fun _ _ _ _ _ => pts_nil) (fun _ _ _ _ _ => (pe_callN c__read_piece (hr.mono (by first | decide | omega)) rfl (pa_cons (pv 4) (pa_cons (pv 1) pa_nil)))))
      (pss_one (ps_ret (pe_makeC i_Type___init__ (hr.mono (by first | decide | omega)) rfl T.c_Type (pa_cons (pe_callTy call_tuple_of (by rfl) T.b_tuple (by decide +kernel) (pa_cons (pv 3) pa_nil)) (pa_cons (pe_ix ix_list (pv 2) (pe_un un_neg pe_int) (fun _ _ => rfl)) pa_nil))))))), ?_⟩
      cases r with
      | @mk _ _ a qs l sm pc rl fit =>
        refine ⟨.str x, rfl, x, rfl, sm, fun p H1 s1 hp => ?_⟩
        refine asg_go2 ?_
        dsimp only
        rw [pc, List.map_append] at hp
        have ql := rl.len
        have few := Fits_ins_len fit
        have few : l.length ≤ 14 := few
        refine cut_set (fun v H' => ∃ D rs', v = .ref D ∧ H' D = some (.lst rs') ∧ IsTs C_Type H' l rs' ∧ Same H1 H') (fun Q' q' => ?_) ?_
        · refine ⟨.ref p, rfl, 1, rfl, _, rfl, p, _, rfl, SqL.of hp, fun p2 hp2 => ?_⟩
          refine ⟨p2, rfl, ⟨_, SqL.of upd_same⟩, fun D hD => ?_⟩
          have e2 : upd H1 p2 (.lst (cutV (qs.map V.str ++ [a].map V.str) none (some (-1)))) p2 = some (.lst (qs.map V.str)) := by
            rw [upd_same]
            exact congrArg (fun z => some (HO.lst z)) (cut_last (qs.map V.str) (.str a))
          have s2 : Same H1 (upd H1 p2 (.lst (cutV (qs.map V.str ++ [a].map V.str) none (some (-1))))) := (Same.refl H1).new hp2
          have nD1 : H1 D = none := s2.free hD
          refine lc_list (xs := qs.map V.str) (fun i H' => ∃ rs', H' D = some (.lst rs') ∧ IsTs C_Type H' (l.take i) rs' ∧ Same H1 H' ∧ H' p2 = some (.lst (qs.map V.str))) ?_ (fun i H' _ hP => ?_) (fun i y H' hy hP => ?_) (fun H' hP => ?_)
          · exact ⟨[], upd_same, by rw [List.take_zero]; exact IsTs.nil, s2.new hD, by rw [upd_ne (ne_of_none e2 hD)]; exact e2⟩
          · obtain ⟨_, _, _, _, e⟩ := hP
            exact SqL.of e
          · obtain ⟨rs', hD1, hl1, sm1, e3⟩ := hP
            rw [List.getElem?_map] at hy
            obtain ⟨pz, hpz, rfl⟩ := Option.map_eq_some_iff.mp hy
            obtain ⟨u, eu, ru⟩ := rl.get hpz
            have io := lt_of_get hpz
            refine ⟨rfl, tyes ?_⟩
            refine ⟨.str pz, rfl, .int (d : Int), rfl, pz, u, d, rfl, lo, d1, ru, fun z H5 s5 hz => ?_⟩
            have hD5 := s5 _ _ hD1
            have h3 : Held H5 (upd H5 D (.lst (rs' ++ [.ref z]))) := held_lst hD5
            refine ⟨rs', hD5, lt_line' (by rw [hl1.len, List.length_take]; omega), rs' ++ [.ref z], upd_same, ?_, (sm1.trans s5).mut nD1, ?_⟩
            · rw [take_next eu]
              exact (IsTs.held h3 _ _ (IsTs.same s5 _ _ hl1)).app (.cons (IsT.held h3 _ _ hz) .nil)
            · have np : p2 ≠ D := fun e => by
                rw [← e, e2] at hD
                cases hD
              rw [upd_ne np]
              exact s5 _ _ e3
          · obtain ⟨rs', hD1, hl1, sm1, e3⟩ := hP
            rw [List.length_map, ql, List.take_length] at hl1
            exact q' _ _ ⟨D, rs', rfl, hD1, hl1, sm1⟩
        rintro v H2 ⟨D, rs', rfl, hD, hl2, s2⟩
        refine ⟨.ref D, rfl, D, rs', rfl, .inl ⟨SqL.of hD, fun l9 hl9 => ?_⟩⟩
        have s9 := s2.new (o := .tup rs') hl9
        refine ⟨.ref p, rfl, 1, rfl, p, _, _, .str a, rfl, rfl, SqL.of (s9 _ _ hp), atI_last _ _, ?_⟩
        exact make_ty upd_same (IsTs.same ((Same.refl H2).new hl9) _ _ hl2) fit fun z H' s h => q z H' ((s1.trans s9).trans s) h
  intro n
  induction n with
  | zero =>
    have a : FnOk P w K mg base CX0 (7 + 2 * 0) f fd ["text", "depth"] (spr__read_freely 0 K C_Type) := by
      refine F.ok sc__read_freely (fun vs H Q E h => ?_) (fun cdv A outer s H vs Q E hr h => ?_) <;> (obtain ⟨_, _, _, _, z, _⟩ := h; exact absurd z (Nat.not_lt_zero _))
    exact ⟨a, piece 0 a⟩
  | succ n ih =>
    have a := freely n ih.2
    exact ⟨a, piece (n + 1) a⟩
end


end My
namespace My
open PySem PySem.Spec PyProof.Rows L2 TL
set_option pp.maxSteps 3000
set_option pp.deepTerms false
def Wd (a : Str) : Prop := isW (.str a) = true ∧ ∀ c ∈ a.cps.toList, c < 128

/-! ### Type.read -/
def sp_Type_read (_ : PySem.W.Frag) (C : Addr) : Sp := fun vs H Q _ => ∃ x t, vs = [.ref C, .str x] ∧ Reads 4 x t ∧ t.text = x ∧ Made C H Q t
def sp__read_freely (K : PySem.W.Frag) (C : Addr) : Sp := spr__read_freely 5 K C
section
variable {P : Program} {w : World} {K : PySem.W.Frag} {mg : Str → Option Value} {base : Heap} {C_Type : Addr}
theorem ok_Type_read (T : Txt K mg C_Type) (c__read_freely : CalN P w K mg base "_read_freely" 17 ["text", "depth"] (sp__read_freely K C_Type)) (p_Type_text : PrpC P w K mg base C_Type "text" 1 ["self"] (getSp C_Type "_text")) {f : Addr} {fd : FuncData} (F : Fun K "read" "Type.read" s_Type_read f fd) : FnOk P w K mg base CX0 18 f fd ["cls", "text"] (sp_Type_read K C_Type) := by
  have nd := sc_Type_read.nd
  refine F.ok sc_Type_read (fun vs H Q E h => ?_) (fun cdv A outer s H vs Q E hr h => ?_)
  · obtain ⟨x, t, rfl, _⟩ := h
    rfl
  · obtain ⟨x, t, rfl, r, e, q⟩ := h
    refine ⟨_, (pss_cons (ps_if (pt_not (pt_val (pe_callB call_isi (by rfl) T.b_isinstance (by decide +kernel) (pa_cons (pv 1) (pa_cons (pe_bltn (v := .ty "str") (u := .type "str") (by rfl) T.b_str (by decide +kernel) rfl) pa_nil))))) (pss_one ps_never) pss_nil)
      (pss_cons (ps_try_thru0 (pss_one (ps_set (i := 2) nd rfl (.inl rfl) (pe_callN c__read_freely (hr.mono (by first | decide | omega)) rfl (pa_cons (pv 1) (pa_cons (pe_globE rfl T.g_MAX_ORDER) pa_nil))))))
      (pss_cons (ps_if (pt_cmpR op_ne (pe_propC p_Type_text T.k_Type (hr.mono (by first | decide | omega)) (pv 2)) (pv 1) (nomark _)) (pss_one ps_never) pss_nil)
      (pss_one (ps_ret (pv 2)))))), ?_⟩
    refine ⟨.str x, rfl, .str x, .ty "str", .type "str", .type "str", true, rfl, .ty _, .base (.str x), kit_ty (by decide +kernel), true, rfl, iteF ?_⟩
    refine nx_go ?_
    dsimp only
    refine ⟨.str x, rfl, x, t, 4, rfl, by decide, by decide, r, fun z H1 s1 hz => ?_⟩
    refine asg_go2 ?_
    dsimp only
    obtain ⟨b, dx, p, q', rs, eb, hb, _⟩ := hz.at
    cases eb
    refine ⟨.ref z, rfl, z, dx, _, rfl, hb, z, dx, _, .str t.text, rfl, hb, rfl, .str x, rfl, rfl, false, ?_, iteF ?_⟩
    · rw [e]
      exact congrArg V.bl (by simp)
    · refine nx_go ?_
      dsimp only
      exact ⟨.ref z, rfl, q z H1 s1 hz⟩
end
theorem abc_wd : ∀ x ∈ (["a", "b", "c"] : List Str), Wd x := by
  have h : (["a", "b", "c"] : List Str).all (fun x => isW (.str x) && x.cps.toList.all fun c => decide (c < 128)) = true := by decide +kernel
  exact fun x hx => by
    have := List.all_eq_true.mp h x hx
    rw [Bool.and_eq_true] at this
    exact ⟨this.1, fun c hc => of_decide_eq_true (List.all_eq_true.mp this.2 c hc)⟩
theorem fit0 {a : Str} (w : Wd a) : (Ty.mk [] a).Fits ∧ (Ty.mk [] a).places.length = 1 ∧ (Ty.mk [] a).order = 0 := by
  have e : (Ty.mk [] a).places = [a] := by rw [Ty.places, Ty.placesL_nil]; rfl
  have o : (Ty.mk [] a).order = 0 := by rw [Ty.order, Ty.orderL]
  exact ⟨⟨fun b hb => by rw [e] at hb; rw [List.mem_singleton.mp hb]; exact w, by rw [e]; exact (by decide : 1 ≤ 15), by rw [o]; exact Nat.zero_le _⟩, by rw [e]; rfl, o⟩
theorem fit1 {t : Ty} {a : Str} {n k : Nat} (h : t.Fits ∧ t.places.length = n ∧ t.order = k) (w : Wd a) (n1 : n + 1 ≤ 15) (k1 : k + 1 ≤ 4) : (Ty.mk [t] a).Fits ∧ (Ty.mk [t] a).places.length = n + 1 ∧ (Ty.mk [t] a).order = k + 1 := by
  obtain ⟨f, hn, hk⟩ := h
  have e : (Ty.mk [t] a).places = t.places ++ [a] := by rw [Ty.places, Ty.placesL_cons, Ty.placesL_nil, List.append_nil]
  have o : (Ty.mk [t] a).order = t.order + 1 := by rw [Ty.order, Ty.orderL, Ty.orderL]; exact Nat.max_eq_left (Nat.zero_le _)
  have l : (Ty.mk [t] a).places.length = n + 1 := by rw [e, List.length_append, hn]; rfl
  exact ⟨⟨fun b hb => by
    rw [e] at hb
    rcases List.mem_append.mp hb with h | h
    · exact f.words b h
    · rw [List.mem_singleton.mp h]
      exact w, by rw [l]; exact n1, by rw [o, hk]; exact k1⟩, l, by rw [o, hk]⟩
abbrev tA : Ty := .mk [] "a"
abbrev tB_ : Ty := .mk [] "b"
abbrev tC_ : Ty := .mk [] "c"
abbrev tAB : Ty := .mk [tA] "b"
abbrev tABC : Ty := .mk [tAB] "c"
abbrev tABCA : Ty := .mk [tABC] "a"
theorem fitA : tA.Fits ∧ tA.places.length = 1 ∧ tA.order = 0 := fit0 (abc_wd _ (by simp))
theorem fitB : tB_.Fits ∧ tB_.places.length = 1 ∧ tB_.order = 0 := fit0 (abc_wd _ (by simp))
theorem fitC : tC_.Fits ∧ tC_.places.length = 1 ∧ tC_.order = 0 := fit0 (abc_wd _ (by simp))
theorem fitAB : tAB.Fits ∧ tAB.places.length = 2 ∧ tAB.order = 1 := fit1 fitA (abc_wd _ (by simp)) (by decide) (by decide)
theorem fitABC : tABC.Fits ∧ tABC.places.length = 3 ∧ tABC.order = 2 := fit1 fitAB (abc_wd _ (by simp)) (by decide) (by decide)
theorem fitABCA : tABCA.Fits ∧ tABCA.places.length = 4 ∧ tABCA.order = 3 := fit1 fitABC (abc_wd _ (by simp)) (by decide) (by decide)
theorem rAB (d : Nat) : Reads d "a -> b" tAB :=
  .mk (qs := ["a"]) (a := "b") ⟨by decide +kernel, by decide +kernel, by decide +kernel⟩ (by decide +kernel) (.cons (.plain (.inr (.inl (by decide +kernel))) fitA.1) .nil) fitAB.1
theorem rABC : Reads 3 "(a -> b) -> c" tABC :=
  .mk (qs := ["(a -> b)"]) (a := "c") ⟨by decide +kernel, by decide +kernel, by decide +kernel⟩ (by decide +kernel) (.cons (.open_ (d := 2) (by decide +kernel) (by decide +kernel) (by decide +kernel) ((show inner "(a -> b)" = ("a -> b" : Str) by decide +kernel) ▸ rAB 2)) .nil) fitABC.1
theorem rABCA : Reads 4 "((a -> b) -> c) -> a" tABCA :=
  .mk (qs := ["((a -> b) -> c)"]) (a := "a") ⟨by decide +kernel, by decide +kernel, by decide +kernel⟩ (by decide +kernel) (.cons (.open_ (d := 3) (by decide +kernel) (by decide +kernel) (by decide +kernel) ((show inner "((a -> b) -> c)" = ("(a -> b) -> c" : Str) by decide +kernel) ▸ rABC)) .nil) fitABCA.1
theorem xAB : tAB.text = ("a -> b" : Str) := by decide +kernel
theorem xABCA : tABCA.text = ("((a -> b) -> c) -> a" : Str) := by decide +kernel


end My
namespace My
open PySem PySem.Spec PyProof.Rows L2 TL
namespace Ty
theorem mk_eta (t : Ty) : Ty.mk t.ins t.atom = t := by cases t; rfl
theorem places_of (t : Ty) : t.places = placesL t.ins ++ [t.atom] := by
  cases t with
  | mk l b => rw [places]; rfl
end Ty

theorem asg_go {i : Nat} {x : V} {σ : L2.St} {H : Hp} {D : Ends} (h : D.nx (σ.set i (some x)) H) : gName i x σ H D.nx := h
/-! ### kinds as the law has them: nested tuples -/
mutual
def IsK (H : Hp) : Ty → V → Prop
  | .mk i a, v => ∃ p q rs, v = .ref p ∧ H p = some (.tup [.ref q, .str a]) ∧ H q = some (.tup rs) ∧ IsKs H i rs
def IsKs (H : Hp) : List Ty → List V → Prop
  | [], rs => rs = []
  | t :: r, rs => ∃ v vs, rs = v :: vs ∧ IsK H t v ∧ IsKs H r vs
end
mutual
theorem IsK.held {H H' : Hp} (s : Held H H') : ∀ (t : Ty) (v : V), IsK H t v → IsK H' t v
  | .mk i a, v, h => by
    rw [IsK] at h ⊢
    obtain ⟨p, q, rs, e, hp, hq, hi⟩ := h
    exact ⟨p, q, rs, e, s _ _ hp trivial, s _ _ hq trivial, IsKs.held s i rs hi⟩
theorem IsKs.held {H H' : Hp} (s : Held H H') : ∀ (l : List Ty) (rs : List V), IsKs H l rs → IsKs H' l rs
  | [], rs, h => by
    rw [IsKs] at h ⊢
    exact h
  | t :: r, rs, h => by
    rw [IsKs] at h ⊢
    obtain ⟨v, vs, e, h1, h2⟩ := h
    exact ⟨v, vs, e, IsK.held s t v h1, IsKs.held s r vs h2⟩
end
theorem IsK.at {H : Hp} {t : Ty} {v : V} (h : IsK H t v) : ∃ p q rs, v = .ref p ∧ H p = some (.tup [.ref q, .str t.atom]) ∧ H q = some (.tup rs) ∧ IsKs H t.ins rs := by
  cases t with
  | mk i a =>
    rw [IsK] at h
    exact h
theorem IsKs.get {H : Hp} : ∀ {l : List Ty} {rs : List V} {i : Nat} {v : V}, IsKs H l rs → rs[i]? = some v → ∃ t, l[i]? = some t ∧ IsK H t v
  | [], rs, i, v, h, e => by
    rw [IsKs] at h
    rw [h] at e
    cases e
  | t :: r, rs, i, v, h, e => by
    rw [IsKs] at h
    obtain ⟨w, ws, rfl, h1, h2⟩ := h
    cases i with
    | zero => exact ⟨t, rfl, by cases e; exact h1⟩
    | succ i => exact IsKs.get (l := r) (i := i) h2 e
theorem IsKs.len {H : Hp} : ∀ {l : List Ty} {rs : List V}, IsKs H l rs → rs.length = l.length
  | [], rs, h => by
    rw [IsKs] at h
    rw [h]
    rfl
  | t :: r, rs, h => by
    rw [IsKs] at h
    obtain ⟨w, ws, rfl, h1, h2⟩ := h
    rw [List.length_cons, IsKs.len h2, List.length_cons]
theorem IsKs.nil {H : Hp} : IsKs H [] [] := by rw [IsKs]
theorem IsKs.cons {H : Hp} {t : Ty} {l : List Ty} {v : V} {rs : List V} (h : IsK H t v) (k : IsKs H l rs) : IsKs H (t :: l) (v :: rs) := by
  rw [IsKs]
  exact ⟨v, rs, rfl, h, k⟩
theorem IsKs.app {H : Hp} : ∀ {l m : List Ty} {rs ss : List V}, IsKs H l rs → IsKs H m ss → IsKs H (l ++ m) (rs ++ ss)
  | [], m, rs, ss, h, k => by
    rw [IsKs] at h
    rw [h]
    exact k
  | t :: r, m, rs, ss, h, k => by
    rw [IsKs] at h
    obtain ⟨w, ws, rfl, h1, h2⟩ := h
    rw [List.cons_append, IsKs]
    exact ⟨w, ws ++ ss, rfl, h1, IsKs.app h2 k⟩
theorem Ext.held {d : Addr} {H H' : Hp} (e : Ext d H H') (D : IsDice H d) : Held H H' := fun b o hb f => by
  refine e b o (fun z => ?_) hb
  obtain ⟨x, y, u, hd⟩ := D
  rw [z, hd] at hb
  cases hb
  exact f
theorem Held.trans {H H1 H2 : Hp} (a : Held H H1) (b : Held H1 H2) : Held H H2 := fun x o h f => b x o (a x o h f) f
theorem Ty.take_places (l : List Ty) (i : Nat) : (Ty.placesL (l.take i)).length ≤ (Ty.placesL l).length := by
  have e : Ty.placesL l = Ty.placesL (l.take i) ++ Ty.placesL (l.drop i) := by rw [← Ty.placesL_append, List.take_append_drop]
  rw [e, List.length_append]
  exact Nat.le_add_right _ _
def spr__law_atoms_of (n : Nat) (K : PySem.W.Frag) : Sp := fun vs H Q _ => ∃ v t, vs = [v] ∧ IsK H t v ∧ t.order < n ∧ t.places.length ≤ 1000 ∧ ∀ p H', Same H H' → H p = none → H' p = some (.lst (t.places.map V.str)) → Q (.ref p) H'
def sp__law_atoms_of (K : PySem.W.Frag) : Sp := spr__law_atoms_of 6 K
def spr__law_made_kind (n : Nat) (K : PySem.W.Frag) (C : Addr) : Sp := fun vs H Q _ => ∃ v t, vs = [v] ∧ IsK H t v ∧ t.order < n ∧ t.Fits ∧ Made C H Q t
def sp__law_made_kind (K : PySem.W.Frag) (C : Addr) : Sp := spr__law_made_kind 6 K C
section
variable {P : Program} {w : World} {K : PySem.W.Frag} {mg : Str → Option Value} {base : Heap} {C_Type : Addr}
theorem ok__law_atoms_of (T : Txt K mg C_Type) {f : Addr} {fd : FuncData} (F : Fun K "_law_atoms_of" "_law_atoms_of" s__law_atoms_of f fd) (M : mg "_law_atoms_of" = some (.ref f)) (B : Binds K fd ["_law_kind_here"] []) : ∀ n : Nat, FnOkG P w K mg base CX0 (1 + n) f fd ["_law_kind_here"] (spr__law_atoms_of n K)
  | 0 => by
    refine F.okG sc__law_atoms_of (fun vs H Q E h => ?_) (fun cdv A outer s H vs Q E hr hG h => ?_) <;> (obtain ⟨_, _, _, _, z, _⟩ := h; exact absurd z (Nat.not_lt_zero _))
  | n + 1 => by
    have ih := ok__law_atoms_of T F M B n
    have C_self : Cal P w K mg base "_law_atoms_of" (1 + n) ["_law_kind_here"] (spr__law_atoms_of n K) := ⟨f, fd, ih, M, F.kp, B⟩
    have nd := sc__law_atoms_of.nd
    refine F.okG sc__law_atoms_of (fun vs H Q E h => ?_) (fun cdv A outer s H vs Q E hr hG h => ?_)
    · obtain ⟨v, t, rfl, _⟩ := h
      rfl
    · obtain ⟨v, t, rfl, ht, lo, fp, q⟩ := h
      have hr : Room (1 + n) (A.deeper (envOfC "_law_atoms_of" (defScope s__law_atoms_of) s.heap.objs.size f cdv)) := by
        have e : 1 + n = Nat.add 1 n := rfl
        exact hr
      refine ⟨_, (pss_cons (ps_set (i := 1) nd rfl (.inl rfl) (pe_lst pa_nil))
      (pss_cons (ps_for PassesOwn.never rfl (pi_tup (pe_ix ix_tup (pv 0) pe_int (fun _ _ => rfl))) (pg_name (i := 2) nd rfl (.inl rfl)) (pss_one (ps_set (i := 1) nd rfl (.inl rfl) (pe_op op_cat (pv 1) (pe_callC C_self (hr.mono (by first | decide | omega)) hG rfl (pa_cons (pv 2) pa_nil))))))
      (pss_one (ps_ret (pe_op op_cat (pv 1) (pe_lst (pa_cons (pe_ix ix_tup (pv 0) pe_int (fun _ _ => rfl)) pa_nil))))))), ?_⟩
      obtain ⟨p, q', rs, rfl, hp, hq, hk⟩ := ht.at
      have lr := hk.len
      have eo : t.order = Ty.orderL t.ins := by cases t; rw [Ty.order]; rfl
      have ep := Ty.places_of t
      have len : (Ty.placesL t.ins).length + 1 = t.places.length := by rw [ep, List.length_append]; rfl
      refine ⟨Nat.zero_le _, fun l1 hl1 => ?_⟩
      have s1 : Same H (upd H l1 (.lst [])) := (Same.refl H).new hl1
      refine asg_go ?_
      dsimp only
      refine cut_for (fun σ' H' => ∃ l s2, σ' = [some (.ref p), some (.ref l), s2] ∧ H' l = some (.lst ((Ty.placesL t.ins).map V.str)) ∧ H l = none ∧ Same H H') (fun N hN => ?_) ?_
      · refine ⟨.ref p, rfl, p, _, 0, _, rfl, rfl, SqT.of (s1 _ _ hp), rfl, q', rfl, ⟨rs, SqT.of (s1 _ _ hq)⟩, ?_⟩
        refine for_tup (xs := rs) (fun i σ' H' => ∃ l s2, σ' = [some (.ref p), some (.ref l), s2] ∧ H' l = some (.lst ((Ty.placesL (t.ins.take i)).map V.str)) ∧ H l = none ∧ Same H H') ?_ (fun i σ' H' _ hP => ?_) (fun i y σ' H' hy hP => ?_) (fun σ' H' hP => ?_)
        · exact ⟨l1, none, rfl, by rw [upd_same, List.take_zero, Ty.placesL_nil]; rfl, hl1, s1⟩
        · obtain ⟨_, _, _, _, _, s2⟩ := hP
          exact SqT.of (s2 _ _ hq)
        · obtain ⟨l, s2, rfl, hl, nl, s3⟩ := hP
          obtain ⟨s, es, hs⟩ := hk.get hy
          have sm := List.mem_of_getElem? es
          have lo' : s.order < n := by
            have := Ty.low_ins sm
            omega
          have f1 := Ty.few_ins sm
          have f2 := Ty.take_places t.ins i
          refine ⟨.ref l, rfl, y, rfl, y, s, rfl, IsK.held s3.held s y hs, lo', by omega, fun p2 H2 s4 np hp2 => ?_⟩
          refine ⟨l, p2, _, _, rfl, rfl, s4 _ _ hl, hp2, lt_line (by rw [List.length_map, List.length_map]; omega), fun p3 hp3 => ?_⟩
          have s5 := s3.trans s4
          refine ⟨p3, _, rfl, ?_, s5.free hp3, s5.new hp3⟩
          rw [upd_same, take_next es, Ty.placesL_append, Ty.placesL_cons, Ty.placesL_nil, List.append_nil, List.map_append]
        · obtain ⟨l, s2, rfl, hl, nl, s3⟩ := hP
          rw [lr, List.take_length] at hl
          exact hN _ _ ⟨l, s2, rfl, hl, nl, s3⟩
      rintro σ' H' ⟨l, s2, rfl, hl, nl, s3⟩
      refine ⟨.ref l, rfl, .ref p, rfl, p, _, 1, _, rfl, rfl, SqT.of (s3 _ _ hp), rfl, by show 1 ≤ sizeLine; decide, fun p2 hp2 => ?_⟩
      refine ⟨l, p2, _, [.str t.atom], rfl, rfl, by rw [upd_ne (ne_of_none hl hp2)]; exact hl, upd_same, lt_line (by rw [List.length_map]; show _ + 1 ≤ _; omega), fun p3 hp3 => ?_⟩
      have s4 := (s3.new (o := .lst [.str t.atom]) hp2).new (o := .lst ((Ty.placesL t.ins).map V.str ++ [.str t.atom])) hp3
      refine q p3 _ s4 ((s3.new hp2).free hp3) ?_
      rw [upd_same, ep, List.map_append]
      rfl
theorem ok__law_made_kind (T : Txt K mg C_Type) (i_Type___init__ : MakC P w K mg base C_Type 4 ["self", "inputs", "atom"] (sp_Type___init__ K C_Type)) {f : Addr} {fd : FuncData} (F : Fun K "_law_made_kind" "_law_made_kind" s__law_made_kind f fd) (M : mg "_law_made_kind" = some (.ref f)) (B : Binds K fd ["_law_kind_here"] []) : ∀ n : Nat, FnOkG P w K mg base CX0 (6 + n) f fd ["_law_kind_here"] (spr__law_made_kind n K C_Type)
  | 0 => by
    refine F.okG sc__law_made_kind (fun vs H Q E h => ?_) (fun cdv A outer s H vs Q E hr hG h => ?_) <;> (obtain ⟨_, _, _, _, z, _⟩ := h; exact absurd z (Nat.not_lt_zero _))
  | n + 1 => by
    have ih := ok__law_made_kind T i_Type___init__ F M B n
    have C_self : Cal P w K mg base "_law_made_kind" (6 + n) ["_law_kind_here"] (spr__law_made_kind n K C_Type) := ⟨f, fd, ih, M, F.kp, B⟩
    have nd := sc__law_made_kind.nd
    refine F.okG sc__law_made_kind (fun vs H Q E h => ?_) (fun cdv A outer s H vs Q E hr hG h => ?_)
    · obtain ⟨v, t, rfl, _⟩ := h
      rfl
    · obtain ⟨v, t, rfl, ht, lo, ft, q⟩ := h
      have hr : Room (6 + n) (A.deeper (envOfC "_law_made_kind" (defScope s__law_made_kind) s.heap.objs.size f cdv)) := by
        exact hr
      refine ⟨_, (pss_one (ps_ret (pe_makeC i_Type___init__ (hr.mono (by first | decide | omega)) rfl T.c_Type (pa_cons (pe_callTy call_tuple_of (by rfl) T.b_tuple (by decide +kernel) (pa_cons (pe_lcD (own := [("_law_one", 1)]) (by rfl) nd (pi_tup (pe_ix ix_tup (pv 0) pe_int (fun _ _ => rfl))) (blkOk_by (own := [("_law_one", 1)]) (N := ["_law_kind_here", "_law_one"]) (sc := (defScope s__law_made_kind)) (by decide +kernel)) (fun _ _ _ _ _ => pg_name (i := 1) nd rfl (Or.inl rfl)) (fun _ _ _ _ _ => pts_nil) (fun _ _ _ _ _ => (pe_callC C_self (hr.mono (by first | decide | omega)) hG rfl (pa_cons (pv 1) pa_nil)))) pa_nil)) (pa_cons (pe_ix ix_tup (pv 0) pe_int (fun _ _ => rfl)) pa_nil))))), ?_⟩
      obtain ⟨p, q', rs, rfl, hp, hq, hk⟩ := ht.at
      have lr := hk.len
      have few := Fits_ins_len ft
      have ft' : (Ty.mk t.ins t.atom).Fits := by rw [Ty.mk_eta]; exact ft
      have eo : t.order = Ty.orderL t.ins := by cases t; rw [Ty.order]; rfl
      refine ⟨.ref p, rfl, p, _, 0, _, rfl, rfl, SqT.of hp, rfl, q', rfl, ⟨rs, SqT.of hq⟩, fun D hD => ?_⟩
      refine lc_tup (xs := rs) (fun i H' => ∃ rs', H' D = some (.lst rs') ∧ IsTs C_Type H' (t.ins.take i) rs' ∧ Same H H') ?_ (fun i H' _ hP => ?_) (fun i y H' hy hP => ?_) (fun H' hP => ?_)
      · exact ⟨[], upd_same, by rw [List.take_zero]; exact IsTs.nil, (Same.refl H).mut hD⟩
      · obtain ⟨_, _, _, s2⟩ := hP
        exact SqT.of (s2 _ _ hq)
      · obtain ⟨rs', hD1, hl1, s2⟩ := hP
        obtain ⟨s, es, hs⟩ := hk.get hy
        have sm := List.mem_of_getElem? es
        have lo' : s.order < n := by
          have := Ty.low_ins sm
          omega
        refine ⟨rfl, tyes ?_⟩
        refine ⟨y, rfl, y, s, rfl, IsK.held s2.held s y hs, lo', ft'.ins sm, fun x H2 s3 hx => ?_⟩
        refine ⟨rs', s3 _ _ hD1, lt_line' (by rw [hl1.len, List.length_take]; omega), rs' ++ [.ref x], upd_same, ?_, (s2.trans s3).mut hD⟩
        rw [take_next es]
        have h3 : Held H2 (upd H2 D (.lst (rs' ++ [.ref x]))) := held_lst (s3 _ _ hD1)
        exact (IsTs.held h3 _ _ (IsTs.same s3 _ _ hl1)).app (.cons (IsT.held h3 _ _ hx) .nil)
      · obtain ⟨rs', hD1, hl1, s2⟩ := hP
        rw [lr, List.take_length] at hl1
        refine ⟨D, rs', rfl, .inl ⟨SqL.of hD1, fun l hl9 => ?_⟩⟩
        have s9 := s2.new (o := .tup rs') hl9
        refine ⟨.ref p, rfl, p, _, 1, _, rfl, rfl, SqT.of (s9 _ _ hp), rfl, ?_⟩
        exact make_ty upd_same (IsTs.same ((Same.refl H').new hl9) _ _ hl1) ft' fun x H' s h => q x H' (s9.trans s) (by rw [Ty.mk_eta] at h; exact h)
end


end My
namespace My
open PySem PySem.Spec PyProof.Rows L2 TL
theorem Ty.orderL_le {o : Nat} : ∀ l : List Ty, (∀ t ∈ l, t.order + 1 ≤ o) → Ty.orderL l ≤ o
  | [], _ => by rw [Ty.orderL]; exact Nat.zero_le _
  | t :: r, h => by
    rw [Ty.orderL]
    exact Nat.max_le.mpr ⟨h t (List.mem_cons_self ..), Ty.orderL_le r fun u hu => h u (List.mem_cons_of_mem _ hu)⟩
theorem pick_size {L : Int} {x : V} (h : 0 < L) (hx : x ∈ [V.int 1, V.int (if L < 3 then L else 3), V.int L]) : ∃ k : Nat, x = .int k ∧ 1 ≤ k ∧ (k : Int) ≤ L := by
  have nat : ∀ z : Int, 1 ≤ z → z ≤ L → ∃ k : Nat, V.int z = .int k ∧ 1 ≤ k ∧ (k : Int) ≤ L := fun z h1 h2 => ⟨z.toNat, by rw [Int.toNat_of_nonneg (by omega)], by omega, by omega⟩
  rcases List.mem_cons.mp hx with rfl | hx
  · exact nat 1 (by omega) (by omega)
  rcases List.mem_cons.mp hx with rfl | hx
  · by_cases c : L < 3
    · rw [if_pos c]
      exact nat L (by omega) (by omega)
    · rw [if_neg c]
      exact nat 3 (by omega) (by omega)
  · rw [List.mem_singleton.mp hx]
    exact nat L (by omega) (by omega)
theorem pick_order {o : Nat} {x : V} (h : 0 < o) (hx : x ∈ [V.int 0, V.int 0, V.int ((o : Int) - 1)]) : ∃ k : Nat, x = .int k ∧ k + 1 ≤ o := by
  rcases List.mem_cons.mp hx with rfl | hx
  · exact ⟨0, rfl, h⟩
  rcases List.mem_cons.mp hx with rfl | hx
  · exact ⟨0, rfl, h⟩
  · rw [List.mem_singleton.mp hx]
    exact ⟨o - 1, by rw [Int.ofNat_sub h] <;> rfl, by omega⟩
def spr__law_kind (n : Nat) (K : PySem.W.Frag) : Sp := fun vs H Q _ => ∃ d la, ∃ A : List Str, ∃ o m : Nat, vs = [.ref d, .ref la, .int o, .int m] ∧ IsDice H d ∧ H la = some (.lst (A.map V.str)) ∧ la ≠ d ∧ A ≠ [] ∧ A.length ≤ 1000 ∧ o < n ∧ o ≤ 5 ∧ 1 ≤ m ∧ m ≤ 1000 ∧
  ∀ v t H', IsK H' t v → t.order ≤ o → t.places.length ≤ m → (∀ x ∈ t.places, x ∈ A) → Ext d H H' → IsDice H' d → Q v H'
def sp__law_kind (K : PySem.W.Frag) : Sp := spr__law_kind 6 K
section
variable {P : Program} {w : World} {K : PySem.W.Frag} {mg : Str → Option Value} {base : Heap} {C_Type : Addr}
theorem ok__law_kind (T : Txt K mg C_Type) (c__law_pick : Cal P w K mg base "_law_pick" 2 ["_law_dice_here", "_law_items"] (sp__law_pick K)) (c__law_roll : Cal P w K mg base "_law_roll" 1 ["_law_dice_here", "_law_total"] (sp__law_roll K)) (c__law_atoms_of : Cal P w K mg base "_law_atoms_of" 7 ["_law_kind_here"] (sp__law_atoms_of K)) {f : Addr} {fd : FuncData} (F : Fun K "_law_kind" "_law_kind" s__law_kind f fd) (M : mg "_law_kind" = some (.ref f)) (B : Binds K fd ["_law_dice_here", "_law_atoms", "_law_order_here", "_law_most"] []) : ∀ n : Nat, FnOkG P w K mg base CX0 (8 + n) f fd ["_law_dice_here", "_law_atoms", "_law_order_here", "_law_most"] (spr__law_kind n K)
  | 0 => by
    refine F.okG sc__law_kind (fun vs H Q E h => ?_) (fun cdv A outer s H vs Q E hr hG h => ?_) <;> (obtain ⟨_, _, _, _, _, _, _, _, _, _, _, z, _⟩ := h; exact absurd z (Nat.not_lt_zero _))
  | n + 1 => by
    have ih := ok__law_kind T c__law_pick c__law_roll c__law_atoms_of F M B n
    have C_self : Cal P w K mg base "_law_kind" (8 + n) ["_law_dice_here", "_law_atoms", "_law_order_here", "_law_most"] (spr__law_kind n K) := ⟨f, fd, ih, M, F.kp, B⟩
    have nd := sc__law_kind.nd
    refine F.okG sc__law_kind (fun vs H Q E h => ?_) (fun cdv A outer s H vs Q E hr hG h => ?_)
    · obtain ⟨d, la, A, o, m, rfl, _⟩ := h
      rfl
    · obtain ⟨d, la, As, o, m, rfl, hd, hA, nA, eA, zA, lo, o5, m1, m2, q⟩ := h
      have hr : Room (8 + n) (A.deeper (envOfC "_law_kind" (defScope s__law_kind) s.heap.objs.size f cdv)) := hr
      refine ⟨_, (pss_cons (ps_par (i := 4) (j := 5) (by rfl) nd rfl rfl (by decide) rfl rfl (pa_cons (pe_lst pa_nil) (pa_cons (pe_op op_sub (pv 3) pe_int) pa_nil)) (by rfl))
      (pss_cons (ps_for PassesOwn.never rfl (pi_range1 (by rfl) T.b_range (pa_cons (pe_ifExp (pt_cmpR op_gt (pv 2) pe_int (nomark _)) (pe_callC c__law_roll (hr.mono (by first | decide | omega)) hG rfl (pa_cons (pv 0) (pa_cons pe_int pa_nil))) pe_int) pa_nil)) (pg_name (i := 6) nd rfl (.inl rfl)) (pss_one (ps_if (pt_cmpR op_gt (pv 5) pe_int (nomark _)) (pss_cons (ps_set (i := 7) nd rfl (.inl rfl) (pe_callC c__law_pick (hr.mono (by first | decide | omega)) hG rfl (pa_cons (pv 0) (pa_cons (pe_lst (pa_cons pe_int (pa_cons (pe_callB (call_min2 rfl) (by rfl) T.b_min (by decide +kernel) (pa_cons pe_int (pa_cons (pv 5) pa_nil))) (pa_cons (pv 5) pa_nil)))) pa_nil))))
      (pss_cons (ps_set (i := 8) nd rfl (.inl rfl) (pe_callC C_self (hr.mono (by first | decide | omega)) hG rfl (pa_cons (pv 0) (pa_cons (pv 1) (pa_cons (pe_callC c__law_pick (hr.mono (by first | decide | omega)) hG rfl (pa_cons (pv 0) (pa_cons (pe_lst (pa_cons pe_int (pa_cons pe_int (pa_cons (pe_op op_sub (pv 2) pe_int) pa_nil)))) pa_nil))) (pa_cons (pv 7) pa_nil))))))
      (pss_cons (ps_expr (pe_bm PySem.F.plainAttrs_list PySem.F.slot_list_append PySem.F.type_list_append mt_append (pv 4) (pa_cons (pv 8) pa_nil)))
      (pss_one (ps_set (i := 5) nd rfl (.inl rfl) (pe_op op_sub (pv 5) (pe_callB call_len (by rfl) T.b_len (by decide +kernel) (pa_cons (pe_callC c__law_atoms_of (hr.mono (by first | decide | omega)) hG rfl (pa_cons (pv 8) pa_nil)) pa_nil)))))))) pss_nil)))
      (pss_one (ps_ret (pe_tup (pa_cons (pe_callTy call_tuple_of (by rfl) T.b_tuple (by decide +kernel) (pa_cons (pv 4) pa_nil)) (pa_cons (pe_callC c__law_pick (hr.mono (by first | decide | omega)) hG rfl (pa_cons (pv 0) (pa_cons (pv 1) pa_nil))) pa_nil))))))), ?_⟩
      have t3 : 3 ≤ sizeLine := by decide
      refine ⟨Nat.zero_le _, fun li hli => ?_⟩
      refine ⟨.int m, rfl, (m : Int), 1, rfl, rfl, _, _, rfl, ?_⟩
      have nli : li ≠ d := hd.ne hli
      have e0 : Ext d H (upd H li (.lst [])) := (Ext.refl H).new hli
      have d0 : IsDice (upd H li (.lst [])) d := hd.new hli
      dsimp only
      refine cut_for (fun σ' H' => ∃ s5 s6 s7 s8 ts rs, σ' = [some (.ref d), some (.ref la), some (.int o), some (.int m), some (.ref li), s5, s6, s7, s8] ∧ H' li = some (.lst rs) ∧ IsKs H' ts rs ∧ (∀ t ∈ ts, t.order + 1 ≤ o) ∧ (Ty.placesL ts).length + 1 ≤ m ∧ (∀ x ∈ Ty.placesL ts, x ∈ As) ∧ Ext d H H' ∧ IsDice H' d) (fun N hN => ?_) ?_
      · refine ⟨.int o, rfl, (o : Int), 0, rfl, rfl, _, rfl, ite2 (fun c => ?_) (fun c => ?_)⟩
        · have o0 : 0 < o := by have := of_decide_eq_true c; omega
          refine ⟨.ref d, rfl, d, 4, rfl, d0, by decide, by decide, fun r H1 r0 r1 e1 d1 => ?_⟩
          have e01 := e0.trans e1
          refine ⟨r, rfl, by omega, by omega, for_range (lo := 0) (fun i σ' H' => ∃ L s6 s7 s8 ts rs, σ' = [some (.ref d), some (.ref la), some (.int o), some (.int m), some (.ref li), some (.int L), s6, s7, s8] ∧ 0 ≤ L ∧ L + (Ty.placesL ts).length + 1 = (m : Int) ∧ H' li = some (.lst rs) ∧ IsKs H' ts rs ∧ ts.length = rs.length ∧ rs.length ≤ i ∧ (∀ t ∈ ts, t.order + 1 ≤ o) ∧ (∀ x ∈ Ty.placesL ts, x ∈ As) ∧ Ext d H H' ∧ IsDice H' d) ?_ (fun i σ' H' hi hP => ?_) (fun σ' H' hP => ?_)⟩
          · exact ⟨_, _, _, _, [], [], rfl, by omega, by rw [Ty.placesL_nil]; show (m : Int) - 1 + 0 + 1 = m; omega, e1 _ _ nli upd_same, .nil, rfl, Nat.zero_le _, fun _ h => (by cases h), fun _ h => (by rw [Ty.placesL_nil] at h; cases h), e01, d1⟩
          · obtain ⟨L, s6, s7, s8, ts, rs, rfl, L0, Lm, hli1, hk, ln, li4, ords, ins, e2, d2⟩ := hP
            refine ⟨.int L, rfl, L, 0, rfl, rfl, _, rfl, ite2 (fun c => ?_) (fun c => ?_)⟩
            · have Lp : 0 < L := of_decide_eq_true c
              refine ⟨.ref d, rfl, .int L, rfl, 3, L, rfl, .int L, rfl, t3, fun l1 hl1 => ?_⟩
              refine ⟨d, l1, _, rfl, d2.new hl1, SqL.of upd_same, d2.ne hl1, by simp, by show 3 < 1000000; decide, fun x H2 hx e3 d3 => ?_⟩
              obtain ⟨k, rfl, k1, kL⟩ := pick_size Lp hx
              refine asg_go ?_
              dsimp only
              have e13 := (e2.new (o := .lst [V.int 1, V.int (if L < 3 then L else 3), V.int L]) hl1).trans e3
              have hk3 := IsKs.held ((((Ext.refl H').new (o := .lst [V.int 1, V.int (if L < 3 then L else 3), V.int L]) hl1).trans e3).held d2) ts rs hk
              have hli3 : H2 li = some (.lst rs) := e3 _ _ nli (by rw [upd_ne (ne_of_none hli1 hl1)]; exact hli1)
              refine ⟨.ref d, rfl, .ref la, rfl, .ref d, rfl, .int o, rfl, (o : Int), 1, rfl, rfl, t3, fun l2 hl2 => ?_⟩
              refine ⟨d, l2, _, rfl, d3.new hl2, SqL.of upd_same, d3.ne hl2, by simp, by show 3 < 1000000; decide, fun y H3 hy e4 d4 => ?_⟩
              obtain ⟨o', rfl, ho'⟩ := pick_order o0 hy
              have e14 := (e13.new (o := .lst [V.int 0, V.int 0, V.int ((o : Int) - 1)]) hl2).trans e4
              have hk4 := IsKs.held ((((Ext.refl H2).new (o := .lst [V.int 0, V.int 0, V.int ((o : Int) - 1)]) hl2).trans e4).held d3) ts rs hk3
              have hli4 : H3 li = some (.lst rs) := e4 _ _ nli (by rw [upd_ne (ne_of_none hli3 hl2)]; exact hli3)
              refine ⟨.int k, rfl, d, la, As, o', k, rfl, d4, e14 _ _ nA hA, nA, eA, zA, by omega, by omega, k1, by omega, fun v t H4 hv lo4 le4 in4 e5 d5 => ?_⟩
              refine asg_go ?_
              dsimp only
              have hk5 := IsKs.held (e5.held d4) ts rs hk4
              have hli5 : H4 li = some (.lst rs) := e5 _ _ nli hli4
              have hd6 : Held H4 (upd H4 li (.lst (rs ++ [v]))) := held_lst hli5
              refine ⟨.ref li, rfl, .inl ⟨rfl, _, SqL.of hli5⟩, v, rfl, li, rs, v, rfl, rfl, hli5, lt_line' (by omega), ?_⟩
              have e6 : Ext d H (upd H4 li (.lst (rs ++ [v]))) := (e14.trans e5).mut hli
              refine ⟨.int L, rfl, v, rfl, v, t, rfl, IsK.held hd6 t v hv, by omega, by omega, fun p5 H5 s5 np hp5 => ?_⟩
              refine ⟨.ref p5, _, rfl, .inl ⟨_, SqL.of hp5, rfl⟩, L, _, rfl, rfl, ?_⟩
              have lt_ : (Ty.placesL (ts ++ [t])).length = (Ty.placesL ts).length + t.places.length := by
                rw [Ty.placesL_append, Ty.placesL_cons, Ty.placesL_nil, List.append_nil, List.length_append]
              refine ⟨L - ((t.places.map V.str).length : Nat), _, _, _, ts ++ [t], rs ++ [v], rfl, ?_, ?_, s5 _ _ upd_same, ?_, ?_, ?_, fun u hu => ?_, fun x hx => ?_, e6.trans (Ext.same s5), (d5.mut nli).same s5⟩
              · rw [List.length_map]
                omega
              · rw [List.length_map, lt_]
                omega
              · exact (IsKs.held s5.held _ _ (IsKs.held hd6 ts rs hk5)).app (.cons (IsK.held s5.held _ _ (IsK.held hd6 t v hv)) .nil)
              · rw [List.length_append, List.length_append, ln]
                rfl
              · rw [List.length_append]
                show rs.length + 1 ≤ i + 1
                omega
              · rcases List.mem_append.mp hu with h | h
                · exact ords u h
                · rw [List.mem_singleton.mp h]
                  omega
              · rw [Ty.placesL_append, Ty.placesL_cons, Ty.placesL_nil, List.append_nil] at hx
                rcases List.mem_append.mp hx with h | h
                · exact ins x h
                · exact in4 x h
            · exact ⟨L, _, _, _, ts, rs, rfl, L0, Lm, hli1, hk, ln, by omega, ords, ins, e2, d2⟩
          · obtain ⟨L, s6, s7, s8, ts, rs, rfl, L0, Lm, hli1, hk, ln, li4, ords, ins, e2, d2⟩ := hP
            exact hN _ _ ⟨_, _, _, _, ts, rs, rfl, hli1, hk, ords, by omega, ins, e2, d2⟩
        · refine ⟨0, rfl, by decide, by decide, for_range (lo := 0) (fun i σ' H' => σ' = [some (.ref d), some (.ref la), some (.int o), some (.int m), some (.ref li), some (.int ((m : Int) - 1)), none, none, none] ∧ H' = upd H li (.lst [])) ⟨rfl, rfl⟩ (fun i σ' H' hi hP => absurd hi (Nat.not_lt_zero _)) (fun σ' H' hP => ?_)⟩
          obtain ⟨rfl, rfl⟩ := hP
          exact hN _ _ ⟨_, _, _, _, [], [], rfl, upd_same, .nil, fun _ h => (by cases h), by rw [Ty.placesL_nil]; exact m1, fun _ h => (by rw [Ty.placesL_nil] at h; cases h), e0, d0⟩
      rintro σ' H' ⟨s5, s6, s7, s8, ts, rs, rfl, hli', hk, ords, few, ins, e2, d2⟩
      refine ⟨.ref li, rfl, li, rs, rfl, .inl ⟨SqL.of hli', fun p1 hp1 => ?_⟩⟩
      refine ⟨.ref d, rfl, .ref la, rfl, d, la, As.map V.str, rfl, d2.new hp1, SqL.of ((e2.new hp1) _ _ nA hA), nA, by simpa using eA, by rw [List.length_map]; omega, fun x H3 hx e3 d3 => ⟨by show 2 ≤ sizeLine; decide, fun p2 hp2 => ?_⟩⟩
      obtain ⟨a, ha, rfl⟩ := mem_strs hx
      have np1 : p1 ≠ d := d2.ne hp1
      have hp13 : H3 p1 = some (.tup rs) := e3 _ _ np1 upd_same
      have e23 : Ext d H' H3 := ((Ext.refl H').new hp1).trans e3
      have pl : (Ty.mk ts a).places = Ty.placesL ts ++ [a] := by rw [Ty.places]
      refine q (.ref p2) (.mk ts a) _ ?_ (by rw [Ty.order]; exact Ty.orderL_le ts ords) (by rw [pl, List.length_append]; exact few) (fun x hx => ?_) ((e2.trans e23).new hp2) (d3.new hp2)
      · rw [IsK]
        exact ⟨p2, p1, rs, rfl, upd_same, by rw [upd_ne (ne_of_none hp13 hp2)]; exact hp13, IsKs.held (((e23.new hp2)).held d2) ts rs hk⟩
      · rw [pl] at hx
        rcases List.mem_append.mp hx with h | h
        · exact ins x h
        · rw [List.mem_singleton.mp h]
          exact ha
end


end My
namespace My
open PySem PySem.Spec PyProof.Rows L2 TL
theorem intBits_le (x : Int) {n : Nat} (h : x.natAbs < 2 ^ n) (h0 : 0 < n) : Builtin.Int.intBits x ≤ n := by
  have e := PySem.Flt.log2_lt_of h0 h
  unfold Builtin.Int.intBits
  split <;> omega
section
variable {P : Program} {w : World} {K : PySem.W.Frag} {mg : Str → Option Value} {base : Heap}
theorem ok__law_roll (T : Txt K mg C_Type) {f : Addr} {fd : FuncData} (F : Fun K "_law_roll" "_law_roll" s__law_roll f fd) : FnOkG P w K mg base CX0 1 f fd ["_law_dice_here", "_law_total"] (sp__law_roll K) := by
  have nd := sc__law_roll.nd
  refine F.okG sc__law_roll (fun vs H Q E h => ?_) (fun cdv A outer s H vs Q E hr hG h => ?_)
  · obtain ⟨d, n, rfl, _⟩ := h
    rfl
  · obtain ⟨d, n, rfl, ⟨a, b, c, hd⟩, h0, h1, q⟩ := h
    refine ⟨_, (pss_cons (ps_if (pt_cmpR op_gt (pe_ix ix_list (pv 0) pe_int (fun _ _ => rfl)) pe_int (nomark _)) (pss_cons (ps_set (i := 2) nd rfl (.inl rfl) (pe_op op_mod (pe_callTy call_int1 (by rfl) T.b_int (by decide +kernel) (pa_cons (pe_ix ix_list (pv 0) pe_int (fun _ _ => rfl)) pa_nil)) (pv 1)))
      (pss_cons (ps_asg (pe_op op_fdiv (pe_ix ix_list (pv 0) pe_int (fun _ _ => rfl)) (pv 1)) (pg_sub (pv 0) pe_int set_list))
      (pss_one (ps_ret (pv 2))))) pss_nil)
      (pss_cons (ps_asg (pe_op op_add (pe_ix ix_list (pv 0) pe_int (fun _ _ => rfl)) pe_int) (pg_sub (pv 0) pe_int set_list))
      (pss_cons (ps_set (i := 3) nd rfl (.inl rfl) (pe_op op_mod (pe_callTy call_int1 (by rfl) T.b_int (by decide +kernel) (pa_cons (pe_op op_add (pe_ix ix_list (pv 0) pe_int (fun _ _ => rfl)) (pe_op op_mul pe_int (pe_ix ix_list (pv 0) pe_int (fun _ _ => rfl)))) pa_nil)) pe_int))
      (pss_cons (ps_set (i := 4) nd rfl (.inl rfl) (pe_op op_add (pe_op op_mul (pe_op op_mod (pe_callTy call_int1 (by rfl) T.b_int (by decide +kernel) (pa_cons (pe_op op_mul (pv 3) (pv 3)) pa_nil)) pe_int) (pv 3)) (pe_op op_mul pe_int (pe_ix ix_list (pv 0) pe_int (fun _ _ => rfl)))))
      (pss_cons (ps_set (i := 4) nd rfl (.inl rfl) (pe_op op_mod (pe_callTy call_int1 (by rfl) T.b_int (by decide +kernel) (pa_cons (pv 4) pa_nil)) pe_int))
      (pss_one (ps_ret (pe_op op_mod (pe_callTy call_int1 (by rfl) T.b_int (by decide +kernel) (pa_cons (pe_op op_fdiv (pv 4) pe_int) pa_nil)) (pv 1))))))))), ?_⟩
    have g0 : SqL K H d [.int a, .int b, .int c] := SqL.of hd
    refine ⟨.ref d, rfl, d, _, 0, _, rfl, rfl, g0, rfl, a, 0, rfl, rfl, _, rfl, ?_⟩
    refine ite2 (fun _ => ?_) (fun _ => ?_)
    · refine ⟨.ref d, rfl, d, _, 0, _, rfl, rfl, g0, rfl, .inl ⟨a, rfl, .int n, rfl, a, n, rfl, rfl, h0, ?_⟩⟩
      refine ⟨.ref d, rfl, d, _, 0, _, rfl, rfl, g0, rfl, .int n, rfl, a, n, rfl, rfl, ⟨h0, h1⟩, ?_⟩
      refine ⟨.ref d, rfl, d, _, 0, 0, rfl, rfl, hd, rfl, ?_⟩
      refine ⟨.int (a % n), rfl, ?_⟩
      exact q _ _ (Int.emod_nonneg _ (by omega)) (Int.emod_lt_of_pos _ h0) Ext.set ⟨_, _, _, upd_same⟩
    · refine ⟨.ref d, rfl, d, _, 2, _, rfl, rfl, g0, rfl, c, 1, rfl, rfl, ?_⟩
      refine ⟨.ref d, rfl, d, _, 2, 2, rfl, rfl, hd, rfl, ?_⟩
      have g2 : SqL K (upd H d (.lst [.int a, .int b, .int (c + 1)])) d [.int a, .int b, .int (c + 1)] := SqL.of upd_same
      refine ⟨.ref d, rfl, d, _, 1, _, rfl, rfl, g2, rfl, .ref d, rfl, d, _, 2, _, rfl, rfl, g2, rfl, 998244293, c + 1, rfl, rfl, .inl ⟨by decide, by decide⟩, b, _, rfl, rfl, ?_⟩
      refine .inl ⟨_, rfl, _, _, rfl, rfl, (show (0 : Int) < 2305843009213693951 by decide), ?_⟩
      have x0 : 0 ≤ (b + 998244293 * (c + 1)) % 2305843009213693951 := Int.emod_nonneg _ (by decide)
      have x1 : (b + 998244293 * (c + 1)) % 2305843009213693951 < 2305843009213693951 := Int.emod_lt_of_pos _ (by decide)
      have xm : -(2 ^ 64 : Int) < (b + 998244293 * (c + 1)) % 2305843009213693951 ∧ (b + 998244293 * (c + 1)) % 2305843009213693951 < 2 ^ 64 := ⟨by omega, by omega⟩
      refine ⟨_, rfl, _, rfl, _, _, rfl, rfl, .inl xm, .inl ⟨_, rfl, _, _, rfl, rfl, (show (0 : Int) < 2305843009213693921 by decide), ?_⟩⟩
      refine ⟨_, rfl, _, _, rfl, rfl, .inr xm, ?_⟩
      refine ⟨.ref d, rfl, d, _, 2, _, rfl, rfl, g2, rfl, 9413, c + 1, rfl, rfl, .inl ⟨by decide, by decide⟩, _, _, rfl, rfl, ?_⟩
      refine ⟨_, rfl, .inl ⟨_, rfl, _, _, rfl, rfl, (show (0 : Int) < 2305843009213693669 by decide), ?_⟩⟩
      refine ⟨_, rfl, _, _, rfl, rfl, ⟨(show (0 : Int) < 8192 by decide), (show (8192 : Int) < 1073741824 by decide)⟩, .inl ⟨_, rfl, .int n, rfl, _, n, rfl, rfl, h0, ?_⟩⟩
      exact q _ _ (Int.emod_nonneg _ (by omega)) (Int.emod_lt_of_pos _ h0) Ext.set ⟨_, _, _, upd_same⟩
theorem ok__law_pick (T : Txt K mg C_Type) (c__law_roll : Cal P w K mg base "_law_roll" 1 ["_law_dice_here", "_law_total"] (sp__law_roll K)) {f : Addr} {fd : FuncData} (F : Fun K "_law_pick" "_law_pick" s__law_pick f fd) : FnOkG P w K mg base CX0 2 f fd ["_law_dice_here", "_law_items"] (sp__law_pick K) := by
  have nd := sc__law_pick.nd
  refine F.okG sc__law_pick (fun vs H Q E h => ?_) (fun cdv A outer s H vs Q E hr hG h => ?_)
  · obtain ⟨d, l, xs, rfl, _⟩ := h
    rfl
  · obtain ⟨d, l, xs, rfl, hd, hl, ne, xne, hz, q⟩ := h
    refine ⟨_, (pss_one (ps_ret (pe_ix ix_list (pv 1) (pe_callC c__law_roll (hr.mono (by first | decide | omega)) hG rfl (pa_cons (pv 0) (pa_cons (pe_callB call_len (by rfl) T.b_len (by decide +kernel) (pa_cons (pv 1) pa_nil)) pa_nil))) (fun _ _ => rfl)))), ?_⟩
    have h1 : 0 < xs.length := List.length_pos_iff.mpr xne
    refine ⟨.ref l, rfl, .ref d, rfl, .ref l, rfl, .ref l, xs.length, rfl, .inl ⟨xs, hl, rfl⟩, ?_⟩
    refine ⟨d, (xs.length : Int), rfl, hd, by omega, by omega, fun r H' r0 r1 e dd => ?_⟩
    have hr' : r.toNat < xs.length := by omega
    have er : r = (r.toNat : Int) := by omega
    refine ⟨l, xs, r, xs[r.toNat], rfl, rfl, sql_ext e ne hl, ?_, ?_⟩
    · have g := atI_nat (List.getElem?_eq_getElem hr')
      rw [← er] at g
      exact g
    · exact q _ _ (List.getElem_mem hr') e dd
end

section
variable {P : Program} {w : World} {K : PySem.W.Frag} {mg : Str → Option Value} {base : Heap}
theorem ok__law_dice (T : Txt K mg C_Type) {f : Addr} {fd : FuncData} (F : Fun K "_law_dice" "_law_dice" s__law_dice f fd) : FnOkG P w K mg base CX0 1 f fd ["_law_script", "_law_spot"] (sp__law_dice K) := by
  have nd := sc__law_dice.nd
  refine F.okG sc__law_dice (fun vs H Q E h => ?_) (fun cdv A outer s H vs Q E hr hG h => ?_)
  · obtain ⟨a, ns, i, rfl, _⟩ := h
    rfl
  · obtain ⟨a, ns, i', rfl, hS, hi0, hi, q⟩ := h
    obtain ⟨i, rfl⟩ := Int.eq_ofNat_of_zero_le hi0
    refine ⟨_, (pss_cons (ps_set (i := 2) nd rfl (.inl rfl) (pe_op op_add (pe_op op_mul pe_int (pv 1)) pe_int))
      (pss_cons (ps_if (pt_cmpR op_lt (pv 1) (pe_callB call_len (by rfl) T.b_len (by decide +kernel) (pa_cons (pv 0) pa_nil)) (nomark _)) (pss_one (ps_set (i := 2) nd rfl (.inl rfl) (pe_ix ix_list (pv 0) (pv 1) (fun _ _ => rfl)))) pss_nil)
      (pss_cons (ps_set (i := 3) nd rfl (.inl rfl) (pe_op op_mod (pe_callTy call_int1 (by rfl) T.b_int (by decide +kernel) (pa_cons (pe_callB call_abs (by rfl) T.b_abs (by decide +kernel) (pa_cons (pv 2) pa_nil)) pa_nil)) (pe_op op_powW (pe_op op_powW pe_int pe_int) pe_int)))
      (pss_cons (ps_set (i := 4) nd rfl (.inl rfl) (pe_op op_add (pe_op op_add (pe_op op_add (pe_op op_mul (pe_op op_mod (pe_callTy call_int1 (by rfl) T.b_int (by decide +kernel) (pa_cons (pv 3) pa_nil)) pe_int) pe_int) (pe_op op_mul pe_int (pv 1))) (pe_op op_mul pe_int (pe_callTy call_int1 (by rfl) T.b_int (by decide +kernel) (pa_cons (pe_cmpR op_lt (pv 2) pe_int (nomark _)) pa_nil)))) pe_int))
      (pss_one (ps_ret (pe_lst (pa_cons (pe_callB (call_max2 rfl) (by rfl) T.b_max (by decide +kernel) (pa_cons pe_int (pa_cons (pe_op op_sub (pv 3) (pe_op op_powW pe_int pe_int)) pa_nil))) (pa_cons (pe_op op_mod (pe_callTy call_int1 (by rfl) T.b_int (by decide +kernel) (pa_cons (pv 4) pa_nil)) pe_int) (pa_cons pe_int pa_nil)))))))))), ?_⟩
    refine ⟨.int i, rfl, _, _, rfl, rfl, .inl ⟨by decide, by decide⟩, _, _, rfl, rfl, ?_⟩
    refine ⟨.int i, rfl, .ref a, rfl, .ref a, _, rfl, .inl ⟨_, hS, rfl⟩, _, _, rfl, rfl, _, rfl, ?_⟩
    have p1 : (0 : Int) < (10 ^ 60) ^ 10 := by decide +kernel
    have p2 : (0 : Int) < 2305843009213693669 := by decide
    refine ite2 (fun hlt => ?_) (fun _ => ?_)
    · have hlt' : i < ns.length := by
        have := of_decide_eq_true hlt
        rw [List.length_map] at this
        omega
      refine ⟨.ref a, rfl, .int i, rfl, a, _, _, .int ns[i], rfl, rfl, hS, atI_nat (by rw [List.getElem?_map, List.getElem?_eq_getElem hlt']; rfl), ?_⟩
      refine ⟨_, rfl, _, rfl, .inl ⟨_, rfl, 10, 60, rfl, rfl, ⟨by decide, by decide +kernel⟩, _, 10, rfl, rfl, ⟨by decide, by decide +kernel⟩, _, _, rfl, rfl, p1, ?_⟩⟩
      refine ⟨_, rfl, .inl ⟨_, rfl, _, _, rfl, rfl, p2, _, _, rfl, rfl, .inr ⟨by decide, by decide⟩, .int i, rfl, _, _, rfl, rfl, .inl ⟨by decide, by decide⟩, _, _, rfl, rfl, ?_⟩⟩
      refine ⟨_, rfl, _, _, rfl, rfl, .inr ⟨_, rfl, _, _, rfl, rfl, .inl ⟨by decide, by decide⟩, _, _, rfl, rfl, _, _, rfl, rfl, ?_⟩⟩
      refine ⟨_, rfl, 10, 18, rfl, rfl, ⟨by decide, by decide +kernel⟩, _, _, rfl, rfl, _, _, rfl, _, rfl, .inl ⟨_, rfl, _, _, rfl, rfl, p2, by show 3 ≤ sizeLine; decide, fun p hp => q p _ hp ⟨_, _, _, upd_same⟩⟩⟩
    · refine ⟨_, rfl, _, rfl, .inl ⟨_, rfl, 10, 60, rfl, rfl, ⟨by decide, by decide +kernel⟩, _, 10, rfl, rfl, ⟨by decide, by decide +kernel⟩, _, _, rfl, rfl, p1, ?_⟩⟩
      refine ⟨_, rfl, .inl ⟨_, rfl, _, _, rfl, rfl, p2, _, _, rfl, rfl, .inr ⟨by decide, by decide⟩, .int i, rfl, _, _, rfl, rfl, .inl ⟨by decide, by decide⟩, _, _, rfl, rfl, ?_⟩⟩
      refine ⟨_, rfl, _, _, rfl, rfl, .inr ⟨_, rfl, _, _, rfl, rfl, .inl ⟨by decide, by decide⟩, _, _, rfl, rfl, _, _, rfl, rfl, ?_⟩⟩
      refine ⟨_, rfl, 10, 18, rfl, rfl, ⟨by decide, by decide +kernel⟩, _, _, rfl, rfl, _, _, rfl, _, rfl, .inl ⟨_, rfl, _, _, rfl, rfl, p2, by show 3 ≤ sizeLine; decide, fun p hp => q p _ hp ⟨_, _, _, upd_same⟩⟩⟩
end


end My
namespace My
open PySem PySem.Spec PyProof.Rows L2 TL
set_option pp.maxSteps 3000
/-! ### parts, signs -/
namespace Ty
theorem parts_less : ∀ (n : Nat) (t : Ty), t.places.length ≤ n → ∀ u ∈ t.parts, u = t ∨ (u.places.length < t.places.length ∧ u.order < t.order)
  | 0, t, h, u, _ => absurd (places_pos t) (by omega)
  | n + 1, t, h, u, hu => by
    rcases (mem_parts t).mp hu with e | ⟨s, hs, hu⟩
    · exact .inl e
    · have l1 : s.places.length ≤ (placesL t.ins).length := few_ins hs
      have l2 : t.places.length = (placesL t.ins).length + 1 := by rw [places_at, List.length_append]; rfl
      have l3 := order_of_ins hs
      rcases parts_less n s (by omega) u hu with e | ⟨h1, h2⟩
      · subst e
        exact .inr ⟨by omega, by omega⟩
      · exact .inr ⟨by omega, by omega⟩
theorem parts_trans : ∀ (n : Nat) (t : Ty), t.places.length ≤ n → ∀ u ∈ t.parts, ∀ w ∈ u.parts, w ∈ t.parts
  | 0, t, h, u, _, _, _ => absurd (places_pos t) (by omega)
  | n + 1, t, h, u, hu, w, hw => by
    rcases (mem_parts t).mp hu with e | ⟨s, hs, hu⟩
    · rw [← e]
      exact hw
    · have l1 : s.places.length ≤ (placesL t.ins).length := few_ins hs
      have l2 : t.places.length = (placesL t.ins).length + 1 := by rw [places_at, List.length_append]; rfl
      exact (mem_parts t).mpr (.inr ⟨s, hs, parts_trans n s (by omega) u hu w hw⟩)
theorem mem_placesL' {x : Str} : ∀ l : List Ty, x ∈ placesL l ↔ ∃ t ∈ l, x ∈ t.places
  | [] => by rw [placesL_nil]; simp
  | t :: r => by rw [placesL_cons, List.mem_append, mem_placesL' r]; simp
theorem signs : ∀ (n : Nat) (t : Ty), t.places.length ≤ n → ∀ x, x ∈ t.places ↔ x ∈ t.pos ∨ x ∈ t.neg
  | 0, t, h, x => absurd (places_pos t) (by omega)
  | n + 1, t, h, x => by
    have l2 : t.places.length = (placesL t.ins).length + 1 := by rw [places_at, List.length_append]; rfl
    have ih : ∀ s ∈ t.ins, (x ∈ s.places ↔ x ∈ s.pos ∨ x ∈ s.neg) := fun s hs => signs n s (by have := few_ins hs; omega) x
    rw [places_at, List.mem_append, mem_placesL', List.mem_singleton, mem_pos, mem_neg]
    constructor
    · rintro (⟨s, hs, h⟩ | e)
      · rcases (ih s hs).mp h with h | h
        · exact .inr ⟨s, hs, h⟩
        · exact .inl (.inr ⟨s, hs, h⟩)
      · exact .inl (.inl e)
    · rintro ((e | ⟨s, hs, h⟩) | ⟨s, hs, h⟩)
      · exact .inr e
      · exact .inl ⟨s, hs, (ih s hs).mpr (.inr h)⟩
      · exact .inl ⟨s, hs, (ih s hs).mpr (.inl h)⟩
theorem order_at (t : Ty) : t.order = orderL t.ins := by cases t; rw [order]; rfl
theorem order_max (t : Ty) (m : Int) (h0 : t.ins.map (fun t => ((t.order : Nat) : Int)) = [] → m = -1) (h1 : t.ins.map (fun t => ((t.order : Nat) : Int)) ≠ [] → m ∈ t.ins.map (fun t => ((t.order : Nat) : Int)) ∧ ∀ y ∈ t.ins.map (fun t => ((t.order : Nat) : Int)), y ≤ m) : ((t.order : Nat) : Int) = 1 + m := by
  have e := orderL_max t.ins (m + 1) (fun h => by
    have : t.ins = [] := List.map_eq_nil_iff.mp h
    rw [h0 (by rw [this]; rfl)]
    rfl) (fun h => by
    have ne : t.ins.map (fun t => ((t.order : Nat) : Int)) ≠ [] := fun z => h (by rw [List.map_eq_nil_iff.mp z]; rfl)
    obtain ⟨a, b⟩ := h1 ne
    obtain ⟨u, hu, eu⟩ := List.mem_map.mp a
    refine ⟨List.mem_map.mpr ⟨u, hu, by rw [← eu]⟩, fun y hy => ?_⟩
    obtain ⟨u2, hu2, eu2⟩ := List.mem_map.mp hy
    have := b _ (List.mem_map.mpr ⟨u2, hu2, rfl⟩)
    omega)
  rw [order_at]
  omega
end Ty
/-- the row of the texts of the parts -/
def TX (t : Ty) (X : List Str) : Prop := X.Nodup ∧ sortedS X = true ∧ (∀ x, x ∈ X ↔ x ∈ t.parts.map Ty.text) ∧ X.length ≤ t.places.length
theorem IsParts.tx {t : Ty} {us : List Ty} (h : IsParts t us) : TX t (us.map Ty.text) := ⟨h.nd, h.so, h.mem, by rw [List.length_map]; exact h.few⟩
theorem eqv_strs : ∀ l : List Str, PyData.eqvAll (l.map PyData.str) (l.map PyData.str) = true
  | [] => by simp [PyData.eqvAll]
  | x :: r => by
    rw [List.map_cons, PyData.eqvAll, eqv_strs r]
    simp [PyData.eqv]
theorem dp_textsN {K : PySem.W.Frag} {H : Hp} : ∀ l : List Str, DpAll K H (l.map V.str) (l.map PyData.str)
  | [] => .nil
  | x :: r => .cons (.str x) (dp_textsN r)
theorem mem_joinL {c : Nat} {S : List Nat} : ∀ ps : List (List Nat), c ∈ joinL S ps → c ∈ S ∨ ∃ p ∈ ps, c ∈ p
  | [], h => by simp [joinL] at h
  | [p], h => .inr ⟨p, List.mem_singleton.mpr rfl, by simpa [joinL] using h⟩
  | p :: q :: r, h => by
    have h : c ∈ p ++ S ++ joinL S (q :: r) := by simpa [joinL] using h
    rcases List.mem_append.mp h with h | h
    · rcases List.mem_append.mp h with h | h
      · exact .inr ⟨p, List.mem_cons_self .., h⟩
      · exact .inl h
    · rcases mem_joinL (q :: r) h with h | ⟨x, hx, h⟩
      · exact .inl h
      · exact .inr ⟨x, List.mem_cons_of_mem _ hx, h⟩
namespace Ty
theorem arr_ascii : ∀ c ∈ tl (" -> " : Str), c < 128 := by decide +kernel
theorem par_ascii : (∀ c ∈ tl ("(" : Str), c < 128) ∧ ∀ c ∈ tl (")" : Str), c < 128 := by decide +kernel
theorem inside_ascii {t : Ty} (h : ∀ c ∈ tl t.text, c < 128) : ∀ c ∈ tl t.inside, c < 128 := by
  unfold inside
  split
  · exact h
  · intro c hc
    rw [tl_append, tl_append] at hc
    rcases List.mem_append.mp hc with hc | hc
    · rcases List.mem_append.mp hc with hc | hc
      · exact par_ascii.1 c hc
      · exact h c hc
    · exact par_ascii.2 c hc
theorem text_ascii : ∀ (n : Nat) (t : Ty), t.places.length ≤ n → (∀ a ∈ t.places, ∀ c ∈ tl a, c < 128) → ∀ c ∈ tl t.text, c < 128
  | 0, t, h, _ => absurd (places_pos t) (by omega)
  | n + 1, .mk i a, h, ha => by
    rw [text, join_eq, tl_join]
    intro c hc
    have l2 : (Ty.mk i a).places.length = (placesL i).length + 1 := by rw [places, List.length_append]; rfl
    rcases mem_joinL _ hc with hc | ⟨p, hp, hc⟩
    · exact arr_ascii c hc
    · obtain ⟨x, hx, rfl⟩ := List.mem_map.mp hp
      rcases List.mem_append.mp hx with hx | hx
      · rw [insideL_map] at hx
        obtain ⟨u, hu, rfl⟩ := List.mem_map.mp hx
        refine inside_ascii (text_ascii n u (by have := few_ins hu; omega) fun b hb => ha b ?_) c hc
        rw [places]
        exact List.mem_append_left _ ((mem_placesL' i).mpr ⟨u, hu, hb⟩)
      · rw [List.mem_singleton.mp hx] at hc
        exact ha a (by rw [places]; exact List.mem_append_right _ (List.mem_singleton.mpr rfl)) c hc
end Ty
theorem Ty.Fits.parts {t u : Ty} (f : t.Fits) : ∀ n, t.places.length ≤ n → u ∈ t.parts → u.Fits := by
  intro n
  induction n generalizing t with
  | zero => exact fun h _ => absurd (Ty.places_pos t) (by omega)
  | succ n ih =>
    intro h hu
    rcases (Ty.mem_parts t).mp hu with e | ⟨s, hs, hu⟩
    · rw [e]
      exact f
    · refine ih (f.of_ins hs) ?_ hu
      have l1 : s.places.length ≤ (Ty.placesL t.ins).length := Ty.few_ins hs
      have l2 : t.places.length = (Ty.placesL t.ins).length + 1 := by rw [Ty.places_at, List.length_append]; rfl
      omega
theorem Ty.Fits.ascii {t : Ty} (f : t.Fits) : PyData.strOk t.text = true := strOk_ascii (Ty.text_ascii _ t (Nat.le_refl _) fun a ha => (f.words a ha).2)
theorem TX.ok {t : Ty} {X : List Str} (f : t.Fits) (h : TX t X) : ∀ x ∈ X, PyData.strOk x = true := fun x hx => by
  obtain ⟨u, hu, e⟩ := List.mem_map.mp ((h.2.2.1 x).mp hx)
  rw [← e]
  exact (f.parts _ (Nat.le_refl _) hu).ascii
theorem shaped_strs {l : List Str} (h : ∀ x ∈ l, PyData.strOk x = true) : SeqAt.shaped (.list (l.map PyData.str)) = true ∧ SeqAt.shaped (.tuple (l.map PyData.str)) = true :=
  shaped_flat fun d hd => by
    obtain ⟨x, hx, rfl⟩ := List.mem_map.mp hd
    exact ⟨by rw [PyData.canLay0]; exact h x hx, rfl⟩

/-! ### a row of texts in order, no two alike, is settled by its members -/
theorem lt_trans_no : ∀ a b c : List Nat, ltCps b a = false → ltCps c b = false → ltCps c a = false
  | [], _, c, _, _ => by cases c <;> rfl
  | x :: r, [], _, h, _ => by cases h
  | x :: r, y :: s, [], _, h => by cases h
  | x :: r, y :: s, z :: t, h1, h2 => by
    unfold ltCps at h1 h2 ⊢
    simp only [Bool.or_eq_false_iff, Bool.and_eq_false_iff, decide_eq_false_iff_not, beq_eq_false_iff_ne] at h1 h2 ⊢
    obtain ⟨a1, a2⟩ := h1
    obtain ⟨b1, b2⟩ := h2
    refine ⟨by omega, ?_⟩
    by_cases e : z = x
    · have e1 : y = x := by omega
      have e2 : z = y := by omega
      exact .inr (lt_trans_no r s t (a2.resolve_left fun k => k e1) (b2.resolve_left fun k => k e2))
    · exact .inl e
theorem lt_both_no : ∀ a b : List Nat, ltCps a b = false → ltCps b a = false → a = b
  | [], [], _, _ => rfl
  | [], _ :: _, h, _ => by cases h
  | _ :: _, [], _, h => by cases h
  | x :: r, y :: s, h1, h2 => by
    unfold ltCps at h1 h2
    simp only [Bool.or_eq_false_iff, Bool.and_eq_false_iff, decide_eq_false_iff_not, beq_eq_false_iff_ne] at h1 h2
    obtain ⟨a1, a2⟩ := h1
    obtain ⟨b1, b2⟩ := h2
    have e : x = y := by omega
    rw [e, lt_both_no r s (a2.resolve_left fun k => k e) (b2.resolve_left fun k => k e.symm)]
theorem rising_all : ∀ (p : Str) (l : List Str), risingS p l = true → ∀ x ∈ l, ltCps x.cps.toList p.cps.toList = false
  | _, [], _, _, h => by cases h
  | p, y :: r, h, x, hx => by
    unfold risingS at h
    obtain ⟨h1, h2⟩ := Bool.and_eq_true_iff.mp h
    have h1 : ltCps y.cps.toList p.cps.toList = false := by simpa using h1
    rcases List.mem_cons.mp hx with rfl | hx
    · exact h1
    · exact lt_trans_no _ _ _ h1 (rising_all y r h2 x hx)
theorem rising_tail {p : Str} : ∀ {l : List Str}, risingS p l = true → sortedS l = true
  | [], _ => rfl
  | y :: r, h => by
    unfold risingS at h
    exact (Bool.and_eq_true_iff.mp h).2
theorem sorted_one : ∀ (ys zs : List Str), sortedS ys = true → sortedS zs = true → ys.Nodup → zs.Nodup → (∀ x, x ∈ ys ↔ x ∈ zs) → ys = zs
  | [], [], _, _, _, _, _ => rfl
  | [], z :: t, _, _, _, _, h => by cases (h z).mpr (List.mem_cons_self ..)
  | x :: r, [], _, _, _, _, h => by cases (h x).mp (List.mem_cons_self ..)
  | x :: r, z :: t, sy, sz, ny, nz, h => by
    have hx := rising_all x r sy
    have hz := rising_all z t sz
    have self : ∀ a : List Nat, ltCps a a = false := by
      intro a
      induction a with
      | nil => rfl
      | cons n r ih => unfold ltCps; simp [ih]
    have e : x = z := by
      have e1 : ltCps x.cps.toList z.cps.toList = false := by
        rcases List.mem_cons.mp ((h x).mp (List.mem_cons_self ..)) with k | k
        · rw [k]; exact self _
        · exact hz x k
      have e2 : ltCps z.cps.toList x.cps.toList = false := by
        rcases List.mem_cons.mp ((h z).mpr (List.mem_cons_self ..)) with k | k
        · rw [k]; exact self _
        · exact hx z k
      have e3 := lt_both_no _ _ e1 e2
      cases x
      cases z
      exact congrArg _ (Array.toList_inj.mp e3)
    subst e
    obtain ⟨n1, n2⟩ := List.nodup_cons.mp ny
    obtain ⟨m1, m2⟩ := List.nodup_cons.mp nz
    rw [sorted_one r t (rising_tail sy) (rising_tail sz) n2 m2 fun u => ⟨fun k => ?_, fun k => ?_⟩]
    · rcases List.mem_cons.mp ((h u).mp (List.mem_cons_of_mem _ k)) with e | e
      · exact absurd (e ▸ k) n1
      · exact e
    · rcases List.mem_cons.mp ((h u).mpr (List.mem_cons_of_mem _ k)) with e | e
      · exact absurd (e ▸ k) m1
      · exact e



end My
namespace My
open PySem PySem.Spec PyProof.Rows L2 TL
set_option pp.maxSteps 3000
set_option pp.deepTerms false
theorem gath_next {S : Ty → List Str} {l : List Ty} {i : Nat} {u : Ty} {L ys : List Str} (e : l[i]? = some u) (g : Gath S (l.take i) L) (ym : ∀ x, x ∈ ys ↔ x ∈ S u) (yl : ys.length ≤ u.places.length) : Gath S (l.take (i + 1)) (L ++ ys) := by
  obtain ⟨gm, gl⟩ := g
  refine ⟨fun x => ?_, ?_⟩
  · rw [List.mem_append, gm, ym, take_next e]
    simp only [List.mem_append, List.mem_singleton]
    constructor
    · rintro (⟨t', h1, h2⟩ | h)
      · exact ⟨t', .inl h1, h2⟩
      · exact ⟨u, .inr rfl, h⟩
    · rintro ⟨t', h1 | rfl, h2⟩
      · exact .inl ⟨t', h1, h2⟩
      · exact .inr h2
  · rw [List.length_append, take_next e, Ty.placesL_append, List.length_append, Ty.placesL_cons, Ty.placesL_nil, List.append_nil]
    omega
theorem placesL_take (l : List Ty) (i : Nat) : (Ty.placesL (l.take i)).length ≤ (Ty.placesL l).length := by
  have e : l = l.take i ++ l.drop i := (List.take_append_drop i l).symm
  have : (Ty.placesL l).length = (Ty.placesL (l.take i)).length + (Ty.placesL (l.drop i)).length := by
    rw [← List.length_append, ← Ty.placesL_append, ← e]
  omega
theorem lay_strs {l : List Str} (h : ∀ x ∈ l, PyData.strOk x = true) : PyData.canLayAll0 (l.map PyData.str) = true ∧ PyData.depthAll (l.map PyData.str) = 0 := by
  induction l with
  | nil => exact ⟨rfl, rfl⟩
  | cons x r ih =>
    obtain ⟨a, b⟩ := ih fun y hy => h y (List.mem_cons_of_mem _ hy)
    have hx := h x (List.mem_cons_self ..)
    exact ⟨by rw [List.map_cons, PyData.canLayAll0, a, PyData.canLay0, hx]; rfl, by rw [List.map_cons, PyData.depthAll, b]; rfl⟩
theorem lay_pair {l m : List Str} (hl : ∀ x ∈ l, PyData.strOk x = true) (hm : ∀ x ∈ m, PyData.strOk x = true) : PyData.canLay0 (.list [.tuple (l.map PyData.str), .tuple (m.map PyData.str)]) = true ∧ SeqAt.shaped (.list [.tuple (l.map PyData.str), .tuple (m.map PyData.str)]) = true := by
  obtain ⟨a1, a2⟩ := lay_strs hl
  obtain ⟨b1, b2⟩ := lay_strs hm
  have c : PyData.canLay0 (.list [.tuple (l.map PyData.str), .tuple (m.map PyData.str)]) = true := by
    rw [PyData.canLay0, PyData.canLayAll0, PyData.canLayAll0, PyData.canLayAll0, PyData.canLay0, PyData.canLay0, a1, b1]
    rfl
  refine ⟨c, ?_⟩
  unfold SeqAt.shaped
  rw [c, PyData.depth, PyData.depthAll, PyData.depthAll, PyData.depthAll, PyData.depth, PyData.depth, a2, b2]
  rfl
theorem set_one {S : List Str} {ys zs : List Str} {m : Nat} (h : IsSet S m ys) (nd : zs.Nodup) (so : sortedS zs = true) (mem : ∀ x, x ∈ zs ↔ x ∈ S) : zs = ys :=
  sorted_one _ _ so h.2.1 nd h.1 fun x => (mem x).trans (h.2.2.1 x).symm
theorem IsSet.ok {S : List Str} {ys : List Str} {m : Nat} {t : Ty} (h : IsSet S m ys) (ft : t.Fits) (sub : ∀ x ∈ S, x ∈ t.places) : ∀ x ∈ ys, PyData.strOk x = true := fun x hx => strOk_ascii (ft.words x (sub x ((h.2.2.1 x).mp hx))).2

/-! ### what the law tells of its kinds: text, order, parts, signs -/
def spr__law_text (n : Nat) (_ : PySem.W.Frag) : Sp := fun vs H Q _ => ∃ v t, vs = [v] ∧ IsK H t v ∧ t.order < n ∧ t.Fits ∧ ∀ H', Same H H' → Q (.str t.text) H'
def sp__law_text (K : PySem.W.Frag) : Sp := spr__law_text 6 K
def spr__law_order (n : Nat) (_ : PySem.W.Frag) : Sp := fun vs H Q _ => ∃ v t, vs = [v] ∧ IsK H t v ∧ t.order < n ∧ t.Fits ∧ ∀ H', Same H H' → Q (.int (t.order : Nat)) H'
def sp__law_order (K : PySem.W.Frag) : Sp := spr__law_order 6 K
def spr__law_parts (n : Nat) (_ : PySem.W.Frag) : Sp := fun vs H Q _ => ∃ v t, vs = [v] ∧ IsK H t v ∧ t.order < n ∧ t.order < 6 ∧ t.Fits ∧ ∀ p X H', Same H H' → H p = none → H' p = some (.lst (X.map V.str)) → TX t X → Q (.ref p) H'
def sp__law_parts (K : PySem.W.Frag) : Sp := spr__law_parts 6 K
def spr__law_signed (n : Nat) (_ : PySem.W.Frag) : Sp := fun vs H Q _ => ∃ v t, ∃ up : Bool, vs = [v, .bl up] ∧ IsK H t v ∧ t.order < n ∧ t.Fits ∧ ∀ (p : Addr) (L : List Str) (H' : Hp), Same H H' → H p = none → H' p = some (.lst (L.map V.str)) → (∀ x, x ∈ L ↔ x ∈ if up then t.pos else t.neg) → L.length ≤ t.places.length → Q (.ref p) H'
def sp__law_signed (K : PySem.W.Frag) : Sp := spr__law_signed 6 K
mutual
/-- a kind of the law as data -/
def kd : Ty → PyData
  | .mk i a => .tuple [.tuple (kdL i), .str a]
def kdL : List Ty → List PyData
  | [] => []
  | t :: r => kd t :: kdL r
end
mutual
theorem IsK.dp {K : PySem.W.Frag} {H : Hp} : ∀ (t : Ty) (v : V), IsK H t v → Dp K H v (kd t)
  | .mk i a, v, h => by
    rw [IsK] at h
    obtain ⟨p, q, rs, rfl, hp, hq, hi⟩ := h
    rw [kd]
    exact .tup (SqT.of hp) (.cons (.tup (SqT.of hq) (IsKs.dp i rs hi)) (.cons (.str a) .nil))
theorem IsKs.dp {K : PySem.W.Frag} {H : Hp} : ∀ (l : List Ty) (rs : List V), IsKs H l rs → DpAll K H rs (kdL l)
  | [], rs, h => by
    rw [IsKs] at h
    rw [h, kdL]
    exact .nil
  | t :: r, rs, h => by
    rw [IsKs] at h
    obtain ⟨v, vs, rfl, h1, h2⟩ := h
    rw [kdL]
    exact .cons (IsK.dp t v h1) (IsKs.dp r vs h2)
end
mutual
theorem kd_lay : ∀ t : Ty, (∀ a ∈ t.places, PyData.strOk a = true) → (kd t).canLay0 = true ∧ (kd t).depth ≤ 2 * t.order + 2
  | .mk i a, h => by
    rw [Ty.places] at h
    obtain ⟨h1, h2⟩ := kdL_lay i fun b hb => h b (List.mem_append_left _ hb)
    have h3 := h a (List.mem_append_right _ (List.mem_singleton.mpr rfl))
    rw [kd, Ty.order]
    constructor
    · rw [PyData.canLay0, PyData.canLayAll0, PyData.canLayAll0, PyData.canLayAll0, PyData.canLay0, PyData.canLay0, h1, h3]
      rfl
    · rw [PyData.depth, PyData.depthAll, PyData.depthAll, PyData.depthAll, PyData.depth, PyData.depth]
      omega
theorem kdL_lay : ∀ l : List Ty, (∀ a ∈ Ty.placesL l, PyData.strOk a = true) → PyData.canLayAll0 (kdL l) = true ∧ PyData.depthAll (kdL l) ≤ 2 * Ty.orderL l
  | [], h => by
    rw [kdL]
    exact ⟨rfl, Nat.zero_le _⟩
  | t :: r, h => by
    rw [Ty.placesL_cons] at h
    obtain ⟨h1, h2⟩ := kd_lay t fun b hb => h b (List.mem_append_left _ hb)
    obtain ⟨h3, h4⟩ := kdL_lay r fun b hb => h b (List.mem_append_right _ hb)
    rw [kdL, Ty.orderL]
    constructor
    · rw [PyData.canLayAll0, h1, h3]
      rfl
    · rw [PyData.depthAll]
      omega
end
theorem kd_shaped {t : Ty} (f : t.Fits) : SeqAt.shaped (.tuple (kdL t.ins)) = true := by
  obtain ⟨h1, h2⟩ := kdL_lay t.ins fun a ha => strOk_ascii (f.words a (by rw [Ty.places_at]; exact List.mem_append_left _ ha)).2
  have o : Ty.orderL t.ins ≤ 4 := by
    have := f.low
    cases t
    rw [Ty.order] at this
    exact this
  unfold SeqAt.shaped
  rw [PyData.canLay0, PyData.depth, h1]
  simp
  omega
theorem kd_empty (l : List Ty) : PyData.eqv (.tuple (kdL l)) (.tuple []) = l.isEmpty := by
  cases l with
  | nil => rw [kdL]; rfl
  | cons t r => rw [kdL]; rfl
section
variable {P : Program} {w : World} {K : PySem.W.Frag} {mg : Str → Option Value} {base : Heap} {C_Type : Addr}
theorem ok__law_text (T : Txt K mg C_Type) {f : Addr} {fd : FuncData} (F : Fun K "_law_text" "_law_text" s__law_text f fd) (M : mg "_law_text" = some (.ref f)) (B : Binds K fd ["_law_kind_here"] []) : ∀ n : Nat, FnOkG P w K mg base CX0 (1 + n) f fd ["_law_kind_here"] (spr__law_text n K)
  | 0 => by
    refine F.okG sc__law_text (fun vs H Q E h => ?_) (fun cdv A outer s H vs Q E hr hG h => ?_) <;> (obtain ⟨_, _, _, _, z, _⟩ := h; exact absurd z (Nat.not_lt_zero _))
  | n + 1 => by
    have ih := ok__law_text T F M B n
    have C_self : Cal P w K mg base "_law_text" (1 + n) ["_law_kind_here"] (spr__law_text n K) := ⟨f, fd, ih, M, F.kp, B⟩
    have nd := sc__law_text.nd
    refine F.okG sc__law_text (fun vs H Q E h => ?_) (fun cdv A outer s H vs Q E hr hG h => ?_)
    · obtain ⟨v, t, rfl, _⟩ := h
      rfl
    · obtain ⟨v, t, rfl, ht, lo, ft, q⟩ := h
      have hr : Room (1 + n) (A.deeper (envOfC "_law_text" (defScope s__law_text) s.heap.objs.size f cdv)) := by
        exact hr
      refine ⟨_, (pss_cons (ps_set (i := 1) nd rfl (.inl rfl) (pe_lst pa_nil))
      (pss_cons (ps_for PassesOwn.never rfl (pi_tup (pe_ix ix_tup (pv 0) pe_int (fun _ _ => rfl))) (pg_name (i := 2) nd rfl (.inl rfl)) (pss_one (ps_expr (pe_bm PySem.F.plainAttrs_list PySem.F.slot_list_append PySem.F.type_list_append mt_append (pv 1) (pa_cons (pe_ifExp (pt_cmpR (op_eqD hr.units) (pe_ix ix_tup (pv 2) pe_int (fun _ _ => rfl)) (pe_tup pa_nil) (nomark _)) (pe_callC C_self (hr.mono (by first | decide | omega)) hG rfl (pa_cons (pv 2) pa_nil)) (pe_op op_add_str (pe_op op_add_str pe_str (pe_callC C_self (hr.mono (by first | decide | omega)) hG rfl (pa_cons (pv 2) pa_nil))) pe_str)) pa_nil)))))
      (pss_one (ps_ret (pe_join pe_str (pe_op op_cat (pv 1) (pe_lst (pa_cons (pe_ix ix_tup (pv 0) pe_int (fun _ _ => rfl)) pa_nil)))))))), ?_⟩
      obtain ⟨p, q', rs, rfl, hp, hq, hk⟩ := ht.at
      have lr := hk.len
      have ft' : (Ty.mk t.ins t.atom).Fits := by rw [Ty.mk_eta]; exact ft
      have eo : t.order = Ty.orderL t.ins := by cases t; rw [Ty.order]; rfl
      have few := Fits_ins_len ft
      refine ⟨Nat.zero_le _, fun l1 hl1 => ?_⟩
      have s1 : Same H (upd H l1 (.lst [])) := (Same.refl H).new hl1
      refine asg_go ?_
      dsimp only
      refine ⟨.ref p, rfl, p, _, 0, _, rfl, rfl, SqT.of (s1 _ _ hp), rfl, q', rfl, ⟨rs, SqT.of (s1 _ _ hq)⟩, ?_⟩
      refine for_tup (xs := rs) (fun i σ' H' => (∃ s2, σ' = [some (.ref p), some (.ref l1), s2]) ∧ H' l1 = some (.lst (((t.ins.take i).map Ty.inside).map V.str)) ∧ Same H H') ?_ (fun i σ' H' _ hP => SqT.of (hP.2.2 _ _ hq)) (fun i y σ' H' hy hP => ?_) (fun σ' H' hP => ?_)
      · exact ⟨⟨none, rfl⟩, by rw [upd_same, List.take_zero]; rfl, s1⟩
      · obtain ⟨⟨s2, rfl⟩, hl, sm⟩ := hP
        obtain ⟨s, es, hs⟩ := hk.get hy
        have sm' := List.mem_of_getElem? es
        have lo' : s.order < n := by
          have := Ty.low_ins sm'
          omega
        have fs := ft'.ins sm'
        have hs1 := IsK.held sm.held s y hs
        obtain ⟨py, qy, ry, rfl, hpy, hqy, hky⟩ := hs1.at
        have io := lt_of_get hy
        rw [lr] at io
        have txl := Ty.text_small fs.words fs.few
        refine ⟨.ref l1, rfl, .inl ⟨rfl, _, SqL.of hl⟩, .ref py, rfl, py, _, 0, _, rfl, rfl, SqT.of hpy, rfl, Nat.zero_le _, fun e he => ?_⟩
        have se : Same H' (upd H' e (.tup [])) := (Same.refl H').new he
        refine ⟨.tuple (kdL s.ins), .tuple [], .tup (SqT.of (se _ _ hqy)) (IsKs.dp _ _ (IsKs.held se.held _ _ hky)), .tup (SqT.of upd_same) .nil, kd_shaped fs, by decide +kernel, s.ins.isEmpty, congrArg V.bl (kd_empty s.ins), ?_⟩
        have fin : ∀ H2, Same (upd H' e (.tup [])) H2 → rAppend (.ref l1) [.str s.inside] H2 (fun _ H3 => (∃ s2, ([some (.ref p), some (.ref l1), s2] : L2.St).set 2 (some (.ref py)) = [some (.ref p), some (.ref l1), some (.ref py)]) ∧ H3 l1 = some (.lst (((t.ins.take (i + 1)).map Ty.inside).map V.str)) ∧ Same H H3) := fun H2 s4 => by
          refine ⟨l1, _, .str s.inside, rfl, rfl, s4 _ _ (se _ _ hl), lt_line' (by rw [List.length_map, List.length_map, List.length_take]; omega), ⟨s2, rfl⟩, ?_, (sm.trans (se.trans s4)).mut hl1⟩
          rw [upd_same, take_next es, List.map_append, List.map_append]
          rfl
        cases hc : s.ins.isEmpty with
        | true =>
          refine iteT ?_
          refine ⟨.ref py, rfl, .ref py, s, rfl, IsK.held se.held s _ hs1, lo', fs, fun H2 s4 => ?_⟩
          obtain ⟨l', xs', v', e1, e2, e3, e4, -, e5, e6⟩ := fin H2 s4
          have ei : s.inside = s.text := by rw [Ty.inside, if_pos hc]
          rw [ei] at e2
          refine ⟨l', xs', v', e1, e2, e3, e4, ⟨_, rfl⟩, e5, e6⟩
        | false =>
          refine iteF ?_
          refine ⟨.ref py, rfl, .ref py, s, rfl, IsK.held se.held s _ hs1, lo', fs, fun H2 s4 => ⟨"(", s.text, rfl, rfl, ?_, "(" ++ s.text, ")", rfl, rfl, ?_, ?_⟩⟩
          · exact lt_line (by have : (("(" : Str)).length = 1 := by decide +kernel
                              omega)
          · rw [app_len]
            exact lt_line (by have h1 : (("(" : Str)).length = 1 := by decide +kernel
                              have h2 : ((")" : Str)).length = 1 := by decide +kernel
                              omega)
          obtain ⟨l', xs', v', e1, e2, e3, e4, -, e5, e6⟩ := fin H2 s4
          have ei : s.inside = ("(" : Str) ++ s.text ++ (")" : Str) := by rw [Ty.inside, if_neg (by rw [hc]; decide)]
          rw [ei] at e2
          exact ⟨l', xs', v', e1, e2, e3, e4, ⟨_, rfl⟩, e5, e6⟩
      · obtain ⟨⟨s2, rfl⟩, hl, sm⟩ := hP
        rw [lr, List.take_length, ← Ty.insideL_map] at hl
        have ln : (Ty.insideL t.ins).length = t.ins.length := by rw [Ty.insideL_map, List.length_map]
        refine ⟨⟨" -> ", rfl⟩, .ref l1, rfl, .ref p, rfl, p, _, 1, _, rfl, rfl, SqT.of (sm _ _ hp), rfl, by show 1 ≤ sizeLine; decide, fun d1 h1 => ⟨l1, d1, _, [.str t.atom], rfl, rfl, by rw [upd_ne (ne_of_none hl h1)]; exact hl, upd_same, lt_line (by rw [List.length_map]; show _ + 1 ≤ _; omega), fun d2 h2 => ?_⟩⟩
        have s9 := (sm.new (o := .lst [.str t.atom]) h1).new (o := .lst ((Ty.insideL t.ins).map V.str ++ [.str t.atom])) h2
        refine ⟨" -> ", d2, Ty.insideL t.ins ++ [t.atom], rfl, rfl, .inl (SqL.of ?_), ?_, ?_⟩
        · rw [upd_same, List.map_append]
          rfl
        · have i1 := Ty.insideL_len t.ins (fun b hb => (isW_len (ft.words b (by rw [Ty.places_at]; exact List.mem_append_left _ hb)).1).2)
          have i2 := (isW_len (ft.words t.atom (by rw [Ty.places_at]; exact List.mem_append_right _ (List.mem_singleton.mpr rfl))).1).2
          have i3 : (Ty.placesL t.ins).length + 1 ≤ 15 := by
            have := ft.few
            rw [Ty.places_at, List.length_append] at this
            exact this
          have i4 : ((" -> " : Str)).length = 4 := by decide +kernel
          rw [List.map_append, List.sum_append, List.length_append, i4, ln]
          show _ + (t.atom.length + 0) + (_ + 1) * 4 ≤ _
          omega
        · have et : t.text = Txt.join " -> " (Ty.insideL t.ins ++ [t.atom]) := by cases t; rw [Ty.text]; rfl
          rw [← et]
          exact q _ s9
theorem ok__law_order (T : Txt K mg C_Type) {f : Addr} {fd : FuncData} (F : Fun K "_law_order" "_law_order" s__law_order f fd) (M : mg "_law_order" = some (.ref f)) (B : Binds K fd ["_law_kind_here"] []) : ∀ n : Nat, FnOkG P w K mg base CX0 (1 + n) f fd ["_law_kind_here"] (spr__law_order n K)
  | 0 => by
    refine F.okG sc__law_order (fun vs H Q E h => ?_) (fun cdv A outer s H vs Q E hr hG h => ?_) <;> (obtain ⟨_, _, _, _, z, _⟩ := h; exact absurd z (Nat.not_lt_zero _))
  | n + 1 => by
    have ih := ok__law_order T F M B n
    have C_self : Cal P w K mg base "_law_order" (1 + n) ["_law_kind_here"] (spr__law_order n K) := ⟨f, fd, ih, M, F.kp, B⟩
    have nd := sc__law_order.nd
    refine F.okG sc__law_order (fun vs H Q E h => ?_) (fun cdv A outer s H vs Q E hr hG h => ?_)
    · obtain ⟨v, t, rfl, _⟩ := h
      rfl
    · obtain ⟨v, t, rfl, ht, lo, ft, q⟩ := h
      have hr : Room (1 + n) (A.deeper (envOfC "_law_order" (defScope s__law_order) s.heap.objs.size f cdv)) := by
        exact hr
      refine ⟨_, (pss_one (ps_ret (pe_ifExp (pt_cmpR (op_neD hr.units) (pe_ix ix_tup (pv 0) pe_int (fun _ _ => rfl)) (pe_tup pa_nil) (nomark _)) (pe_op op_add pe_int (pe_callB (cr_max rfl) (by rfl) T.b_max (by decide +kernel) (pa_cons (pe_lcD (own := [("_law_one", 1)]) (by rfl) nd (pi_tup (pe_ix ix_tup (pv 0) pe_int (fun _ _ => rfl))) (blkOk_by (own := [("_law_one", 1)]) (N := ["_law_kind_here", "_law_one"]) (sc := (defScope s__law_order)) (by decide +kernel)) (fun _ _ _ _ _ => pg_name (i := 1) nd rfl (Or.inl rfl)) (fun _ _ _ _ _ => pts_nil) (fun _ _ _ _ _ => (pe_callC C_self (hr.mono (by first | decide | omega)) hG rfl (pa_cons (pv 1) pa_nil)))) pa_nil))) pe_int))), ?_⟩
      obtain ⟨p, q', rs, rfl, hp, hq, hk⟩ := ht.at
      have lr := hk.len
      have ft' : (Ty.mk t.ins t.atom).Fits := by rw [Ty.mk_eta]; exact ft
      have eo : t.order = Ty.orderL t.ins := by cases t; rw [Ty.order]; rfl
      have few := Fits_ins_len ft
      refine ⟨.ref p, rfl, p, _, 0, _, rfl, rfl, SqT.of hp, rfl, Nat.zero_le _, fun e he => ?_⟩
      have se : Same H (upd H e (.tup [])) := (Same.refl H).new he
      refine ⟨.tuple (kdL t.ins), .tuple [], .tup (SqT.of (se _ _ hq)) (IsKs.dp _ _ (IsKs.held se.held _ _ hk)), .tup (SqT.of upd_same) .nil, kd_shaped ft, by decide +kernel, !t.ins.isEmpty, congrArg V.bl (by rw [kd_empty]), ?_⟩
      cases hb : t.ins.isEmpty with
      | true =>
        refine iteF ?_
        have e0 : t.order = 0 := by rw [eo, List.isEmpty_iff.mp hb, Ty.orderL]
        rw [e0] at q
        exact q _ se
      | false =>
        refine iteT ?_
        have hc : t.ins ≠ [] := fun h => by rw [h] at hb; cases hb
        refine ⟨.ref p, rfl, p, _, 0, _, rfl, rfl, SqT.of (se _ _ hp), rfl, q', rfl, ⟨rs, SqT.of (se _ _ hq)⟩, fun D hD => ?_⟩
        refine lc_tup (xs := rs) (fun i H' => H' D = some (.lst (((t.ins.take i).map (fun t => ((t.order : Nat) : Int))).map V.int)) ∧ Same (upd H e (.tup [])) H') ⟨by rw [upd_same, List.take_zero]; rfl, (Same.refl _).mut hD⟩ (fun i H' _ hP => SqT.of (hP.2 _ _ (se _ _ hq))) (fun i y H' hy hP => ?_) (fun H' hP => ?_)
        · obtain ⟨hD3, sm⟩ := hP
          obtain ⟨s, es, hs⟩ := hk.get hy
          have sm' := List.mem_of_getElem? es
          have lo' : s.order < n := by
            have := Ty.low_ins sm'
            omega
          have io := lt_of_get hy
          refine ⟨rfl, tyes ?_⟩
          refine ⟨y, rfl, y, s, rfl, IsK.held (se.trans sm).held s y hs, lo', ft'.ins sm', fun H2 s4 => ⟨_, s4 _ _ hD3, lt_line' ?_, ?_, (sm.trans s4).mut hD⟩⟩
          · rw [List.length_map, List.length_map, List.length_take]
            omega
          · rw [upd_same, take_next es, List.map_append, List.map_append]
            rfl
        · obtain ⟨hD3, sm⟩ := hP
          rw [lr, List.take_length] at hD3
          have ne : t.ins.map (fun t => ((t.order : Nat) : Int)) ≠ [] := fun z => hc (List.map_eq_nil_iff.mp z)
          refine ⟨D, _, rfl, SqL.of hD3, by rw [List.length_map]; exact List.length_pos_iff.mpr hc, fun m m1 m2 => ⟨1, m, rfl, rfl, ?_⟩⟩
          show Q (.int (1 + m)) H'
          rw [← Ty.order_max t m (fun z => absurd z ne) (fun _ => ⟨m1, m2⟩)]
          exact q _ (se.trans sm)
theorem ok__law_parts (T : Txt K mg C_Type) (c__law_text : Cal P w K mg base "_law_text" 7 ["_law_kind_here"] (sp__law_text K)) {f : Addr} {fd : FuncData} (F : Fun K "_law_parts" "_law_parts" s__law_parts f fd) (M : mg "_law_parts" = some (.ref f)) (B : Binds K fd ["_law_kind_here"] []) : ∀ n : Nat, FnOkG P w K mg base CX0 (8 + n) f fd ["_law_kind_here"] (spr__law_parts n K)
  | 0 => by
    refine F.okG sc__law_parts (fun vs H Q E h => ?_) (fun cdv A outer s H vs Q E hr hG h => ?_) <;> (obtain ⟨_, _, _, _, z, _⟩ := h; exact absurd z (Nat.not_lt_zero _))
  | n + 1 => by
    have ih := ok__law_parts T c__law_text F M B n
    have C_self : Cal P w K mg base "_law_parts" (8 + n) ["_law_kind_here"] (spr__law_parts n K) := ⟨f, fd, ih, M, F.kp, B⟩
    have nd := sc__law_parts.nd
    refine F.okG sc__law_parts (fun vs H Q E h => ?_) (fun cdv A outer s H vs Q E hr hG h => ?_)
    · obtain ⟨v, t, rfl, _⟩ := h
      rfl
    · obtain ⟨v, t, rfl, ht, lo, lo6, ft, q⟩ := h
      have hr : Room (8 + n) (A.deeper (envOfC "_law_parts" (defScope s__law_parts) s.heap.objs.size f cdv)) := by
        exact hr
      refine ⟨_, (pss_cons (ps_set (i := 1) nd rfl (.inl rfl) (pe_lst (pa_cons (pe_callC c__law_text (hr.mono (by first | decide | omega)) hG rfl (pa_cons (pv 0) pa_nil)) pa_nil)))
      (pss_cons (ps_for PassesOwn.never rfl (pi_tup (pe_ix ix_tup (pv 0) pe_int (fun _ _ => rfl))) (pg_name (i := 2) nd rfl (.inl rfl)) (pss_one (ps_set (i := 1) nd rfl (.inl rfl) (pe_op op_cat (pv 1) (pe_callC C_self (hr.mono (by first | decide | omega)) hG rfl (pa_cons (pv 2) pa_nil))))))
      (pss_one (ps_ret (pe_callB (cr_sortS rfl) (by rfl) T.b_sorted (by decide +kernel) (pa_cons (pe_callTy (cr_setE rfl) (by rfl) T.b_set (by decide +kernel) (pa_cons (pv 1) pa_nil)) pa_nil)))))), ?_⟩
      obtain ⟨p, q', rs, rfl, hp, hq, hk⟩ := id ht.at
      have lr := hk.len
      have ft' : (Ty.mk t.ins t.atom).Fits := by rw [Ty.mk_eta]; exact ft
      have eo : t.order = Ty.orderL t.ins := by cases t; rw [Ty.order]; rfl
      have few := ft.few
      rw [Ty.places_at, List.length_append] at few
      have few : (Ty.placesL t.ins).length + 1 ≤ 15 := few
      refine ⟨.ref p, rfl, .ref p, t, rfl, ht, by omega, ft, fun H1 s1 => ⟨by show 1 ≤ sizeLine; decide, fun l1 hl1 => ?_⟩⟩
      have s2 : Same H (upd H1 l1 (.lst [.str t.text])) := s1.new hl1
      refine asg_go ?_
      dsimp only
      refine cut_for (fun σ' H' => ∃ l L s3, σ' = [some (.ref p), some (.ref l), s3] ∧ H' l = some (.lst ((t.text :: L).map V.str)) ∧ Gath (fun u => u.parts.map Ty.text) t.ins L ∧ Same H H') (fun N hN => ?_) ?_
      · refine ⟨.ref p, rfl, p, _, 0, _, rfl, rfl, SqT.of (s2 _ _ hp), rfl, q', rfl, ⟨rs, SqT.of (s2 _ _ hq)⟩, ?_⟩
        refine for_tup (xs := rs) (fun i σ' H' => ∃ l L s3, σ' = [some (.ref p), some (.ref l), s3] ∧ H' l = some (.lst ((t.text :: L).map V.str)) ∧ Gath (fun u => u.parts.map Ty.text) (t.ins.take i) L ∧ Same H H') ?_ (fun i σ' H' _ hP => ?_) (fun i y σ' H' hy hP => ?_) (fun σ' H' hP => ?_)
        · exact ⟨l1, [], none, rfl, upd_same, ⟨fun x => by simp, Nat.zero_le _⟩, s2⟩
        · obtain ⟨_, _, _, _, _, _, sm⟩ := hP
          exact SqT.of (sm _ _ hq)
        · obtain ⟨l, L, s3, rfl, hl, g, sm⟩ := hP
          obtain ⟨s, es, hs⟩ := hk.get hy
          have sm' := List.mem_of_getElem? es
          have lo' : s.order < n := by
            have := Ty.low_ins sm'
            omega
          have bu := Ty.few_ins sm'
          have bL : L.length ≤ 14 := Nat.le_trans g.2 (Nat.le_trans (placesL_take _ _) (Nat.le_of_succ_le_succ few))
          refine ⟨.ref l, rfl, y, rfl, y, s, rfl, IsK.held sm.held s y hs, lo', by have := Ty.low_ins sm'; omega, ft'.ins sm', fun p2 X H2 s4 np hp2 tx => ?_⟩
          have bX := tx.2.2.2
          refine ⟨l, p2, _, _, rfl, rfl, s4 _ _ hl, hp2, lt_line (by rw [List.length_map, List.length_map, List.length_cons]; omega), fun p3 hp3 => ?_⟩
          refine ⟨p3, L ++ X, _, rfl, by rw [upd_same]; exact congrArg (fun z => some (HO.lst (V.str t.text :: z))) List.map_append.symm, gath_next es g tx.2.2.1 bX, (sm.trans s4).new hp3⟩
        · obtain ⟨l, L, s3, rfl, hl, g, sm⟩ := hP
          rw [lr, List.take_length] at g
          exact hN _ _ ⟨l, L, s3, rfl, hl, g, sm⟩
      rintro σ' H' ⟨l, L, s3, rfl, hl, g, sm⟩
      have bL : L.length ≤ 14 := Nat.le_trans g.2 (Nat.le_of_succ_le_succ few)
      refine ⟨.ref l, rfl, l, t.text :: L, rfl, .inr (SqL.of hl), by rw [List.length_cons]; omega, fun a L2 ha hL mem => ?_⟩
      rw [List.length_cons] at hL
      refine ⟨a, L2, rfl, upd_same, by omega, fun ys p0 pm nd0 so hp0 => ?_⟩
      refine q p0 ys _ ((sm.new ha).new hp0) ((sm.new ha).free hp0) upd_same ⟨nd0, so, fun x => (pm.mem_iff.trans (mem x)).trans ?_, ?_⟩
      · rw [List.mem_cons, g.1, List.mem_map]
        constructor
        · rintro (e | ⟨u, hu, hx⟩)
          · exact ⟨t, (Ty.mem_parts t).mpr (.inl rfl), e.symm⟩
          · obtain ⟨z, hz, e⟩ := List.mem_map.mp hx
            exact ⟨z, (Ty.mem_parts t).mpr (.inr ⟨u, hu, hz⟩), e⟩
        · rintro ⟨z, hz, e⟩
          rcases (Ty.mem_parts t).mp hz with h | ⟨u, hu, h⟩
          · exact .inl (by rw [← e, h])
          · exact .inr ⟨u, hu, List.mem_map.mpr ⟨z, h, e⟩⟩
      · have g2 := g.2
        rw [pm.length_eq, Ty.places_at, List.length_append]
        show _ ≤ _ + 1
        omega
theorem ok__law_signed (T : Txt K mg C_Type) {f : Addr} {fd : FuncData} (F : Fun K "_law_signed" "_law_signed" s__law_signed f fd) (M : mg "_law_signed" = some (.ref f)) (B : Binds K fd ["_law_kind_here", "_law_is_up"] []) : ∀ n : Nat, FnOkG P w K mg base CX0 (1 + n) f fd ["_law_kind_here", "_law_is_up"] (spr__law_signed n K)
  | 0 => by
    refine F.okG sc__law_signed (fun vs H Q E h => ?_) (fun cdv A outer s H vs Q E hr hG h => ?_) <;> (obtain ⟨_, _, _, _, _, z, _⟩ := h; exact absurd z (Nat.not_lt_zero _))
  | n + 1 => by
    have ih := ok__law_signed T F M B n
    have C_self : Cal P w K mg base "_law_signed" (1 + n) ["_law_kind_here", "_law_is_up"] (spr__law_signed n K) := ⟨f, fd, ih, M, F.kp, B⟩
    have nd := sc__law_signed.nd
    refine F.okG sc__law_signed (fun vs H Q E h => ?_) (fun cdv A outer s H vs Q E hr hG h => ?_)
    · obtain ⟨v, t, up, rfl, _⟩ := h
      rfl
    · obtain ⟨v, t, up, rfl, ht, lo, ft, q⟩ := h
      have hr : Room (1 + n) (A.deeper (envOfC "_law_signed" (defScope s__law_signed) s.heap.objs.size f cdv)) := by
        exact hr
      refine ⟨_, (pss_cons (ps_set (i := 2) nd rfl (.inl rfl) (pe_ifExp (pt_val (pv 1)) (pe_lst (pa_cons (pe_ix ix_tup (pv 0) pe_int (fun _ _ => rfl)) pa_nil)) (pe_lst pa_nil)))
      (pss_cons (ps_for PassesOwn.never rfl (pi_tup (pe_ix ix_tup (pv 0) pe_int (fun _ _ => rfl))) (pg_name (i := 3) nd rfl (.inl rfl)) (pss_one (ps_set (i := 2) nd rfl (.inl rfl) (pe_op op_cat (pv 2) (pe_callC C_self (hr.mono (by first | decide | omega)) hG rfl (pa_cons (pv 3) (pa_cons (pe_not (pv 1)) pa_nil)))))))
      (pss_one (ps_ret (pv 2))))), ?_⟩
      obtain ⟨p, q', rs, rfl, hp, hq, hk⟩ := ht.at
      have lr := hk.len
      have ft' : (Ty.mk t.ins t.atom).Fits := by rw [Ty.mk_eta]; exact ft
      have eo : t.order = Ty.orderL t.ins := by cases t; rw [Ty.order]; rfl
      have few := ft.few
      rw [Ty.places_at, List.length_append] at few
      have few : (Ty.placesL t.ins).length + 1 ≤ 15 := few
      refine cut_set (fun v H' => ∃ (l0 : Addr) (B : List Str), v = .ref l0 ∧ H' l0 = some (.lst (B.map V.str)) ∧ H l0 = none ∧ B.length ≤ 1 ∧ (∀ x, x ∈ B ↔ (up = true ∧ x = t.atom)) ∧ Same H H') (fun Q' q' => ?_) ?_
      · refine ⟨.bl up, rfl, up, rfl, ?_⟩
        cases up with
        | true =>
          refine iteT ?_
          exact ⟨.ref p, rfl, p, _, 1, _, rfl, rfl, SqT.of hp, rfl, by show 1 ≤ sizeLine; decide, fun l0 h0 => q' _ _ ⟨l0, [t.atom], rfl, upd_same, h0, Nat.le_refl _, fun x => by simp, (Same.refl H).new h0⟩⟩
        | false =>
          refine iteF ?_
          exact ⟨Nat.zero_le _, fun l0 h0 => q' _ _ ⟨l0, [], rfl, upd_same, h0, Nat.zero_le _, fun x => by simp, (Same.refl H).new h0⟩⟩
      rintro v H0 ⟨l0, B0, rfl, hl0, n0, b0, m0, s0⟩
      refine cut_for (fun σ' H' => ∃ l L s3, σ' = [some (.ref p), some (.bl up), some (.ref l), s3] ∧ H' l = some (.lst ((B0 ++ L).map V.str)) ∧ H l = none ∧ Gath (fun u => if !up then u.pos else u.neg) t.ins L ∧ Same H H') (fun N hN => ?_) ?_
      · refine ⟨.ref p, rfl, p, _, 0, _, rfl, rfl, SqT.of (s0 _ _ hp), rfl, q', rfl, ⟨rs, SqT.of (s0 _ _ hq)⟩, ?_⟩
        refine for_tup (xs := rs) (fun i σ' H' => ∃ l L s3, σ' = [some (.ref p), some (.bl up), some (.ref l), s3] ∧ H' l = some (.lst ((B0 ++ L).map V.str)) ∧ H l = none ∧ Gath (fun u => if !up then u.pos else u.neg) (t.ins.take i) L ∧ Same H H') ?_ (fun i σ' H' _ hP => ?_) (fun i y σ' H' hy hP => ?_) (fun σ' H' hP => ?_)
        · exact ⟨l0, [], none, rfl, by rw [List.append_nil]; exact hl0, n0, ⟨fun x => by simp, Nat.zero_le _⟩, s0⟩
        · obtain ⟨_, _, _, _, _, _, _, sm⟩ := hP
          exact SqT.of (sm _ _ hq)
        · obtain ⟨l, L, s3, rfl, hl, nl, g, sm⟩ := hP
          obtain ⟨s, es, hs⟩ := hk.get hy
          have sm' := List.mem_of_getElem? es
          have lo' : s.order < n := by
            have := Ty.low_ins sm'
            omega
          have bu := Ty.few_ins sm'
          have bL : L.length ≤ 14 := Nat.le_trans g.2 (Nat.le_trans (placesL_take _ _) (Nat.le_of_succ_le_succ few))
          refine ⟨.ref l, rfl, y, rfl, .bl up, rfl, up, rfl, y, s, !up, rfl, IsK.held sm.held s y hs, lo', ft'.ins sm', fun p2 X H2 s4 np hp2 tx bX => ?_⟩
          refine ⟨l, p2, _, _, rfl, rfl, s4 _ _ hl, hp2, lt_line (by rw [List.length_map, List.length_map, List.length_append]; omega), fun p3 hp3 => ?_⟩
          refine ⟨p3, L ++ X, _, rfl, by rw [upd_same, ← List.append_assoc, List.map_append (l₂ := X)], (sm.trans s4).free hp3, gath_next es g tx bX, (sm.trans s4).new hp3⟩
        · obtain ⟨l, L, s3, rfl, hl, nl, g, sm⟩ := hP
          rw [lr, List.take_length] at g
          exact hN _ _ ⟨l, L, s3, rfl, hl, nl, g, sm⟩
      rintro σ' H' ⟨l, L, s3, rfl, hl, nl, g, sm⟩
      refine ⟨.ref l, rfl, q l (B0 ++ L) H' sm nl hl (fun x => ?_) ?_⟩
      · rw [List.mem_append, m0, g.1]
        cases up with
        | true =>
          show (true = true ∧ x = t.atom) ∨ (∃ u ∈ t.ins, x ∈ u.neg) ↔ x ∈ t.pos
          rw [Ty.mem_pos]
          simp
        | false =>
          show (false = true ∧ x = t.atom) ∨ (∃ u ∈ t.ins, x ∈ u.pos) ↔ x ∈ t.neg
          rw [Ty.mem_neg]
          simp
      · have g2 := g.2
        rw [List.length_append, Ty.places_at, List.length_append]
        show _ ≤ _ + 1
        omega
end


end My
namespace My
open PySem PySem.Spec PyProof.Rows L2 TL
set_option pp.maxSteps 6000
set_option pp.deepTerms false
theorem lay_told {l m : List Str} {a x : Str} {o n : Int} (hl : ∀ x ∈ l, PyData.strOk x = true) (hm : ∀ x ∈ m, PyData.strOk x = true) (ha : PyData.strOk a = true) (hx : PyData.strOk x = true) :
    PyData.canLay0 (.list [.list (l.map PyData.str), .str a, .str x, .str x, .int o, .int n, .tuple (m.map PyData.str)]) = true ∧ SeqAt.shaped (.list [.list (l.map PyData.str), .str a, .str x, .str x, .int o, .int n, .tuple (m.map PyData.str)]) = true := by
  obtain ⟨a1, a2⟩ := lay_strs hl
  obtain ⟨b1, b2⟩ := lay_strs hm
  have c : PyData.canLay0 (.list [.list (l.map PyData.str), .str a, .str x, .str x, .int o, .int n, .tuple (m.map PyData.str)]) = true := by
    simp only [PyData.canLay0, PyData.canLayAll0, a1, b1, ha, hx, Bool.and_self]
  refine ⟨c, ?_⟩
  unfold SeqAt.shaped
  rw [c]
  simp only [PyData.depth, PyData.depthAll, a2, b2]
  decide
theorem lay_flat {l : List Str} (hl : ∀ x ∈ l, PyData.strOk x = true) : PyData.canLay0 (.list (l.map PyData.str)) = true ∧ SeqAt.shaped (.list (l.map PyData.str)) = true :=
  ⟨(Bool.and_eq_true_iff.mp (shaped_strs hl).1).1, (shaped_strs hl).1⟩
theorem wdZ : Wd "zz" := by
  have h : (isW (.str "zz") && ("zz" : Str).cps.toList.all fun c => decide (c < 128)) = true := by decide +kernel
  rw [Bool.and_eq_true] at h
  exact ⟨h.1, fun c hc => of_decide_eq_true (List.all_eq_true.mp h.2 c hc)⟩
theorem fitZ : (Ty.mk [] "zz").Fits ∧ (Ty.mk [] "zz").places.length = 1 ∧ (Ty.mk [] "zz").order = 0 := fit0 wdZ
theorem xZ : (Ty.mk [] "zz").text = ("zz" : Str) := by decide +kernel
def sp__law_told_right (_ : PySem.W.Frag) (C : Addr) : Sp := fun vs H Q _ => ∃ v k t, vs = [v, k] ∧ IsT C H t v ∧ IsK H t k ∧ t.Fits ∧ ("zz" : Str) ∉ t.parts.map Ty.text ∧ ∀ H', Same H H' → Q (.bl true) H'
section
variable {P : Program} {w : World} {K : PySem.W.Frag} {mg : Str → Option Value} {base : Heap} {C_Type : Addr}
theorem ok__law_told_right (T : Txt K mg C_Type) (c__law_atoms_of : Cal P w K mg base "_law_atoms_of" 7 ["_law_kind_here"] (sp__law_atoms_of K)) (p_Type_atom : PrpC P w K mg base C_Type "atom" 1 ["self"] (getSp C_Type "_atom")) (p_Type_text : PrpC P w K mg base C_Type "text" 1 ["self"] (getSp C_Type "_text")) (p_Type_order : PrpC P w K mg base C_Type "order" 1 ["self"] (getSp C_Type "_order")) (p_Type_atoms : PrpC P w K mg base C_Type "atoms" 1 ["self"] (sp_Type_atoms K C_Type)) (c__law_text : Cal P w K mg base "_law_text" 7 ["_law_kind_here"] (sp__law_text K)) (c__law_order : Cal P w K mg base "_law_order" 7 ["_law_kind_here"] (sp__law_order K)) (p_Type_inputs : PrpC P w K mg base C_Type "inputs" 1 ["self"] (getSp C_Type "_inputs")) (k_Type_plain : CmtC P w K mg base C_Type "plain" 6 ["cls", "atom"] (sp_Type_plain K C_Type)) (c__law_parts : Cal P w K mg base "_law_parts" 14 ["_law_kind_here"] (sp__law_parts K)) (p_Type_positive : PrpC P w K mg base C_Type "positive" 13 ["self"] (sp_Type_positive K C_Type)) (p_Type_negative : PrpC P w K mg base C_Type "negative" 13 ["self"] (sp_Type_negative K C_Type)) (p_Type_parts : PrpC P w K mg base C_Type "parts" 15 ["self"] (sp_Type_parts K C_Type)) (c__law_signed : Cal P w K mg base "_law_signed" 7 ["_law_kind_here", "_law_is_up"] (sp__law_signed K)) (m_Type___contains__ : MetC P w K mg base C_Type "__contains__" 17 ["self", "x"] (sp_Type___contains__ K C_Type)) (m_Type___iter__ : MetN P w K mg base C_Type "__iter__" 1 ["self"] (sp_Type___iter__ K C_Type)) (m_Type___len__ : MetC P w K mg base C_Type "__len__" 1 ["self"] (sp_Type___len__ K C_Type)) (m_Type___getitem__ : MetC P w K mg base C_Type "__getitem__" 2 ["self", "at"] (sp_Type___getitem__ K C_Type)) (m_Type___str__ : MetC P w K mg base C_Type "__str__" 1 ["self"] (sp_Type___str__ K C_Type)) {f : Addr} {fd : FuncData} (F : Fun K "_law_told_right" "_law_told_right" s__law_told_right f fd) : FnOkG P w K mg base CX0 18 f fd ["_law_made", "_law_kind_here"] (sp__law_told_right K C_Type) := by
  have nd := sc__law_told_right.nd
  refine F.okG sc__law_told_right (fun vs H Q E h => ?_) (fun cdv A outer s H vs Q E hr hG h => ?_)
  · obtain ⟨v, k, t, rfl, _⟩ := h
    rfl
  · obtain ⟨v, k, t, rfl, ht, hk, ft, zz, q⟩ := h
    refine ⟨_, (pss_cons (ps_set (i := 2) nd rfl (.inl rfl) (pe_lst (pa_cons (pe_lcD (own := [("_law_one", 7)]) (by rfl) nd (pi_tup (pe_propC p_Type_inputs T.k_Type (hr.mono (by first | decide | omega)) (pv 0))) (blkOk_by (own := [("_law_one", 7)]) (N := ["_law_made", "_law_kind_here", "_law_told", "_law_due", "_law_places", "_law_signed_here", "_law_odd", "_law_one", "_law_at"]) (sc := (defScope s__law_told_right)) (by decide +kernel)) (fun _ _ _ _ _ => pg_name (i := 7) nd rfl (Or.inl rfl)) (fun _ _ _ _ _ => pts_nil) (fun _ _ _ _ _ => (pe_propC p_Type_text T.k_Type (hr.mono (by first | decide | omega)) (pv 7)))) (pa_cons (pe_propC p_Type_atom T.k_Type (hr.mono (by first | decide | omega)) (pv 0)) (pa_cons (pe_propC p_Type_text T.k_Type (hr.mono (by first | decide | omega)) (pv 0)) (pa_cons (pe_callTy (call_strO m_Type___str__ (hr.mono (by first | decide | omega))) (by rfl) T.b_str (by decide +kernel) (pa_cons (pv 0) pa_nil)) (pa_cons (pe_propC p_Type_order T.k_Type (hr.mono (by first | decide | omega)) (pv 0)) (pa_cons (pe_callB (call_lenO m_Type___len__ (hr.mono (by first | decide | omega))) (by rfl) T.b_len (by decide +kernel) (pa_cons (pv 0) pa_nil)) (pa_cons (pe_propC p_Type_atoms T.k_Type (hr.mono (by first | decide | omega)) (pv 0)) pa_nil)))))))))
      (pss_cons (ps_set (i := 3) nd rfl (.inl rfl) (pe_lst (pa_cons (pe_lcD (own := [("_law_one", 7)]) (by rfl) nd (pi_tup (pe_ix ix_tup (pv 1) pe_int (fun _ _ => rfl))) (blkOk_by (own := [("_law_one", 7)]) (N := ["_law_made", "_law_kind_here", "_law_told", "_law_due", "_law_places", "_law_signed_here", "_law_odd", "_law_one", "_law_at"]) (sc := (defScope s__law_told_right)) (by decide +kernel)) (fun _ _ _ _ _ => pg_name (i := 7) nd rfl (Or.inl rfl)) (fun _ _ _ _ _ => pts_nil) (fun _ _ _ _ _ => (pe_callC c__law_text (hr.mono (by first | decide | omega)) hG rfl (pa_cons (pv 7) pa_nil)))) (pa_cons (pe_ix ix_tup (pv 1) pe_int (fun _ _ => rfl)) (pa_cons (pe_callC c__law_text (hr.mono (by first | decide | omega)) hG rfl (pa_cons (pv 1) pa_nil)) (pa_cons (pe_callC c__law_text (hr.mono (by first | decide | omega)) hG rfl (pa_cons (pv 1) pa_nil)) (pa_cons (pe_callC c__law_order (hr.mono (by first | decide | omega)) hG rfl (pa_cons (pv 1) pa_nil)) pa_nil)))))))
      (pss_cons (ps_set (i := 4) nd rfl (.inl rfl) (pe_callC c__law_atoms_of (hr.mono (by first | decide | omega)) hG rfl (pa_cons (pv 1) pa_nil)))
      (pss_cons (ps_if (pt_cmpR (op_neD hr.units) (pv 2) (pe_op op_cat (pv 3) (pe_lst (pa_cons (pe_callB call_len (by rfl) T.b_len (by decide +kernel) (pa_cons (pv 4) pa_nil)) (pa_cons (pe_callTy call_tuple_of (by rfl) T.b_tuple (by decide +kernel) (pa_cons (pe_callB (cr_sortS rfl) (by rfl) T.b_sorted (by decide +kernel) (pa_cons (pe_callTy (cr_setE rfl) (by rfl) T.b_set (by decide +kernel) (pa_cons (pv 4) pa_nil)) pa_nil)) pa_nil)) pa_nil)))) (nomark _)) (pss_one (ps_ret pe_bl)) pss_nil)
      (pss_cons (ps_set (i := 5) nd rfl (.inl rfl) (pe_lst (pa_cons (pe_callTy call_tuple_of (by rfl) T.b_tuple (by decide +kernel) (pa_cons (pe_callB (cr_sortS rfl) (by rfl) T.b_sorted (by decide +kernel) (pa_cons (pe_callTy (cr_setE rfl) (by rfl) T.b_set (by decide +kernel) (pa_cons (pe_callC c__law_signed (hr.mono (by first | decide | omega)) hG rfl (pa_cons (pv 1) (pa_cons pe_bl pa_nil))) pa_nil)) pa_nil)) pa_nil)) (pa_cons (pe_callTy call_tuple_of (by rfl) T.b_tuple (by decide +kernel) (pa_cons (pe_callB (cr_sortS rfl) (by rfl) T.b_sorted (by decide +kernel) (pa_cons (pe_callTy (cr_setE rfl) (by rfl) T.b_set (by decide +kernel) (pa_cons (pe_callC c__law_signed (hr.mono (by first | decide | omega)) hG rfl (pa_cons (pv 1) (pa_cons pe_bl pa_nil))) pa_nil)) pa_nil)) pa_nil)) pa_nil))))
      (pss_cons (ps_if (PW.pt (pw_or (pt_cmpR (op_neD hr.units) (pe_lst (pa_cons (pe_propC p_Type_positive T.k_Type (hr.mono (by first | decide | omega)) (pv 0)) (pa_cons (pe_propC p_Type_negative T.k_Type (hr.mono (by first | decide | omega)) (pv 0)) pa_nil))) (pv 5) (nomark _)) (pw_or1 (pt_cmpR (op_neD hr.units) (pe_lcD (own := [("_law_one", 7)]) (by rfl) nd (pi_tup (pe_propC p_Type_parts T.k_Type (hr.mono (by first | decide | omega)) (pv 0))) (blkOk_by (own := [("_law_one", 7)]) (N := ["_law_made", "_law_kind_here", "_law_told", "_law_due", "_law_places", "_law_signed_here", "_law_odd", "_law_one", "_law_at"]) (sc := (defScope s__law_told_right)) (by decide +kernel)) (fun _ _ _ _ _ => pg_name (i := 7) nd rfl (Or.inl rfl)) (fun _ _ _ _ _ => pts_nil) (fun _ _ _ _ _ => (pe_propC p_Type_text T.k_Type (hr.mono (by first | decide | omega)) (pv 7)))) (pe_callC c__law_parts (hr.mono (by first | decide | omega)) hG rfl (pa_cons (pv 1) pa_nil)) (nomark _))))) (pss_one (ps_ret pe_bl)) pss_nil)
      (pss_cons (ps_if (PW.pt (pw_or (pt_cmpR (op_neD hr.units) (pe_lcD (own := [("_law_one", 7)]) (by rfl) nd (pi_own m_Type___iter__ (hr.mono (by first | decide | omega)) (pv 0)) (blkOk_by (own := [("_law_one", 7)]) (N := ["_law_made", "_law_kind_here", "_law_told", "_law_due", "_law_places", "_law_signed_here", "_law_odd", "_law_one", "_law_at"]) (sc := (defScope s__law_told_right)) (by decide +kernel)) (fun _ _ _ _ _ => pg_name (i := 7) nd rfl (Or.inl rfl)) (fun _ _ _ _ _ => pts_nil) (fun _ _ _ _ _ => (pe_propC p_Type_text T.k_Type (hr.mono (by first | decide | omega)) (pv 7)))) (pe_ix ix_list (pv 3) pe_int (fun _ _ => rfl)) (nomark _)) (pw_or1 (pt_cmpR (op_neD hr.units) (pe_lcD (own := [("_law_at", 8)]) (by rfl) nd (pi_range1 (by rfl) T.b_range (pa_cons (pe_callB call_len (by rfl) T.b_len (by decide +kernel) (pa_cons (pe_ix ix_tup (pv 1) pe_int (fun _ _ => rfl)) pa_nil)) pa_nil)) (blkOk_by (own := [("_law_at", 8)]) (N := ["_law_made", "_law_kind_here", "_law_told", "_law_due", "_law_places", "_law_signed_here", "_law_odd", "_law_one", "_law_at"]) (sc := (defScope s__law_told_right)) (by decide +kernel)) (fun _ _ _ _ _ => pg_name (i := 8) nd rfl (Or.inl rfl)) (fun _ _ _ _ _ => pts_nil) (fun _ _ _ _ _ => (pe_propC p_Type_text T.k_Type (hr.mono (by first | decide | omega)) (pe_ixO m_Type___getitem__ (hr.mono (by first | decide | omega)) (pv 0) (pv 8) T.x_Type.fn_getitem)))) (pe_ix ix_list (pv 3) pe_int (fun _ _ => rfl)) (nomark _))))) (pss_one (ps_ret pe_bl)) pss_nil)
      (pss_cons (ps_if (pt_cmpR (op_neD hr.units) (pe_lcD (own := [("_law_one", 7)]) (by rfl) nd (pi_tup (pe_propC p_Type_parts T.k_Type (hr.mono (by first | decide | omega)) (pv 0))) (blkOk_by (own := [("_law_one", 7)]) (N := ["_law_made", "_law_kind_here", "_law_told", "_law_due", "_law_places", "_law_signed_here", "_law_odd", "_law_one", "_law_at"]) (sc := (defScope s__law_told_right)) (by decide +kernel)) (fun _ _ _ _ _ => pg_name (i := 7) nd rfl (Or.inl rfl)) (fun _ _ _ _ _ => pts_one (pt_cmpR (op_notInO m_Type___contains__ (hr.mono (by first | decide | omega))) (pv 7) (pv 0) (by rfl))) (fun _ _ _ _ _ => (pv 7))) (pe_lst pa_nil) (nomark _)) (pss_one (ps_ret pe_bl)) pss_nil)
      (pss_cons (ps_set (i := 6) nd rfl (.inl rfl) (pe_lst (pa_cons pe_non (pa_cons pe_int (pa_cons (pe_propC p_Type_text T.k_Type (hr.mono (by first | decide | omega)) (pv 0)) (pa_cons (pe_tup pa_nil) (pa_cons (pe_propC p_Type_inputs T.k_Type (hr.mono (by first | decide | omega)) (pv 0)) (pa_cons (pe_lst (pa_cons (pv 0) pa_nil)) (pa_cons pe_dnewK (pa_cons (pe_propC p_Type_atom T.k_Type (hr.mono (by first | decide | omega)) (pv 0)) (pa_cons (pe_cmethC k_Type_plain (hr.mono (by first | decide | omega)) (pe_glob (v := .ref C_Type) rfl T.c_Type rfl) (pa_cons pe_str pa_nil)) pa_nil)))))))))))
      (pss_one (ps_ret (pe_cmpR (op_eqD hr.units) (pe_lcD (own := [("_law_one", 7)]) (by rfl) nd (pi_list (pv 6)) (blkOk_by (own := [("_law_one", 7)]) (N := ["_law_made", "_law_kind_here", "_law_told", "_law_due", "_law_places", "_law_signed_here", "_law_odd", "_law_one", "_law_at"]) (sc := (defScope s__law_told_right)) (by decide +kernel)) (fun _ _ _ _ _ => pg_name (i := 7) nd rfl (Or.inl rfl)) (fun _ _ _ _ _ => pts_one (pt_cmpR (op_inO m_Type___contains__ (hr.mono (by first | decide | omega))) (pv 7) (pv 0) (by rfl))) (fun _ _ _ _ _ => (pv 7))) (pe_lst pa_nil) (nomark _))))))))))))), ?_⟩
    obtain ⟨b, dx, p, pq, rs, rfl, hb, hp, his, hpl⟩ := id ht.at
    obtain ⟨pk, qk, rk, rfl, hpk, hqk, hks⟩ := id hk.at
    clear hpl
    have lr := his.len
    have lk := hks.len
    have ft' : (Ty.mk t.ins t.atom).Fits := by rw [Ty.mk_eta]; exact ft
    have tlo : t.order < 6 := Nat.lt_of_le_of_lt ft.low (by decide)
    have few := ft.few
    rw [Ty.places_at, List.length_append] at few
    have few : (Ty.placesL t.ins).length + 1 ≤ 15 := few
    have fi : t.ins.length ≤ 14 := Nat.le_trans (Ty.len_placesL t.ins) (Nat.le_of_succ_le_succ few)
    have ss : Same H H := Same.refl H
    have wdp : ∀ x ∈ t.places, PyData.strOk x = true := fun x hx => strOk_ascii (ft.words x hx).2
    have oka : PyData.strOk t.atom = true := wdp _ (by rw [Ty.places_at]; exact List.mem_append_right _ (List.mem_singleton.mpr rfl))
    have okt : PyData.strOk t.text = true := ft.ascii
    have oki : ∀ x ∈ t.ins.map Ty.text, PyData.strOk x = true := fun x hx => by
      obtain ⟨u, hu, rfl⟩ := List.mem_map.mp hx
      exact (ft'.ins hu).ascii
    -- told
    refine ⟨.ref b, rfl, b, dx, _, rfl, hb, b, dx, _, .ref p, rfl, hb, rfl, p, rfl, ⟨rs, SqT.of hp⟩, fun D1 hD1 => ?_⟩
    refine lc_tup (xs := rs) (fun i H' => H' D1 = some (.lst (((t.ins.take i).map Ty.text).map V.str)) ∧ Same H H') ⟨by rw [upd_same, List.take_zero]; rfl, (Same.refl _).mut hD1⟩ (fun i H' _ hP => SqT.of (hP.2 _ _ hp)) (fun i y H' hy hP => ?_) (fun H' hP => ?_)
    · obtain ⟨hE, sm⟩ := hP
      obtain ⟨u, eu, hu⟩ := his.get hy
      obtain ⟨c, dxc, pc, qc, rsc, rfl, hc, _⟩ := (IsT.same sm u y hu).at
      have io := lt_of_get hy
      refine ⟨rfl, tyes ?_⟩
      refine ⟨.ref c, rfl, c, dxc, _, rfl, hc, c, dxc, _, .str u.text, rfl, hc, rfl, _, hE, lt_line' ?_, ?_, sm.mut hD1⟩
      · rw [List.length_map, List.length_map, List.length_take]
        omega
      · rw [upd_same, take_next eu, List.map_append, List.map_append]
        rfl
    obtain ⟨hT1, sm⟩ := hP
    rw [lr, List.take_length] at hT1
    replace ht := IsT.same sm _ _ ht
    replace hk := IsK.held sm.held _ _ hk
    replace hks := IsKs.held sm.held _ _ hks
    replace his := IsTs.same sm _ _ his
    replace hb := sm _ _ hb
    replace hpk := sm _ _ hpk
    replace hqk := sm _ _ hqk
    replace hp := sm _ _ hp
    replace ss := ss.trans sm
    clear sm
    refine ⟨.ref b, rfl, b, dx, _, rfl, hb, b, dx, _, .str t.atom, rfl, hb, rfl, ?_⟩
    refine ⟨.ref b, rfl, b, dx, _, rfl, hb, b, dx, _, .str t.text, rfl, hb, rfl, ?_⟩
    refine ⟨.ref b, rfl, b, dx, _, rfl, hb, .ref b, t, rfl, ht, t.text, rfl, ?_⟩
    refine ⟨.ref b, rfl, b, dx, _, rfl, hb, b, dx, _, .int (t.order : Nat), rfl, hb, rfl, ?_⟩
    refine ⟨.ref b, rfl, b, dx, _, rfl, hb, .ref b, t, rfl, ht, ft, _, rfl, Int.lt_of_le_of_lt (Int.ofNat_le.mpr ft.few) (by decide), ?_⟩
    refine ⟨.ref b, rfl, b, dx, _, rfl, hb, .ref b, t, rfl, ht, ft, fun pA ysA H2 s2 hpA isA => ⟨by show 7 ≤ sizeLine; decide, fun LT hLT => ?_⟩⟩
    refine asg_go2 ?_
    dsimp only
    have s3 := s2.new (o := .lst [.ref D1, .str t.atom, .str t.text, .str t.text, .int (t.order : Nat), .int (t.places.length : Nat), .ref pA]) hLT
    replace hpA := ((Same.refl H2).new (o := .lst [.ref D1, .str t.atom, .str t.text, .str t.text, .int (t.order : Nat), .int (t.places.length : Nat), .ref pA]) hLT) _ _ hpA
    have hLTv : upd H2 LT (.lst [.ref D1, .str t.atom, .str t.text, .str t.text, .int (t.order : Nat), .int (t.places.length : Nat), .ref pA]) LT = _ := upd_same
    generalize upd H2 LT (.lst [.ref D1, .str t.atom, .str t.text, .str t.text, .int (t.order : Nat), .int (t.places.length : Nat), .ref pA]) = H3 at s3 hpA hLTv ⊢
    replace ht := IsT.same s3 _ _ ht
    replace hk := IsK.held s3.held _ _ hk
    replace hks := IsKs.held s3.held _ _ hks
    replace his := IsTs.same s3 _ _ his
    replace hb := s3 _ _ hb
    replace hpk := s3 _ _ hpk
    replace hqk := s3 _ _ hqk
    replace hp := s3 _ _ hp
    replace ss := ss.trans s3
    replace hT1 := s3 _ _ hT1
    clear s3 hLT s2
    -- due
    refine ⟨.ref pk, rfl, pk, _, 0, _, rfl, rfl, SqT.of hpk, rfl, qk, rfl, ⟨rk, SqT.of hqk⟩, fun D2 hD2 => ?_⟩
    refine lc_tup (xs := rk) (fun i H' => H' D2 = some (.lst (((t.ins.take i).map Ty.text).map V.str)) ∧ Same H3 H') ⟨by rw [upd_same, List.take_zero]; rfl, (Same.refl _).mut hD2⟩ (fun i H' _ hP => SqT.of (hP.2 _ _ hqk)) (fun i y H' hy hP => ?_) (fun H' hP => ?_)
    · obtain ⟨hE, sm⟩ := hP
      obtain ⟨u, eu, hu⟩ := hks.get hy
      have um := List.mem_of_getElem? eu
      have fu := ft'.ins um
      have io := lt_of_get hy
      refine ⟨rfl, tyes ?_⟩
      refine ⟨y, rfl, y, u, rfl, IsK.held sm.held u y hu, Nat.lt_of_le_of_lt fu.low (by decide), fu, fun Hk sk => ⟨_, sk _ _ hE, lt_line' ?_, ?_, (sm.trans sk).mut hD2⟩⟩
      · rw [List.length_map, List.length_map, List.length_take]
        omega
      · rw [upd_same, take_next eu, List.map_append, List.map_append]
        rfl
    obtain ⟨hT2, sm⟩ := hP
    rw [lk, List.take_length] at hT2
    replace ht := IsT.same sm _ _ ht
    replace hk := IsK.held sm.held _ _ hk
    replace hks := IsKs.held sm.held _ _ hks
    replace his := IsTs.same sm _ _ his
    replace hb := sm _ _ hb
    replace hpk := sm _ _ hpk
    replace hqk := sm _ _ hqk
    replace hp := sm _ _ hp
    replace ss := ss.trans sm
    replace hT1 := sm _ _ hT1
    replace hpA := sm _ _ hpA
    replace hLTv := sm _ _ hLTv
    clear sm
    refine ⟨.ref pk, rfl, pk, _, 1, _, rfl, rfl, SqT.of hpk, rfl, .ref pk, rfl, .ref pk, t, rfl, hk, tlo, ft, fun Ha sa => ⟨.ref pk, rfl, .ref pk, t, rfl, IsK.held sa.held _ _ hk, tlo, ft, fun Hb sb => ⟨.ref pk, rfl, .ref pk, t, rfl, IsK.held (sa.trans sb).held _ _ hk, tlo, ft, fun Hc sc => ⟨by show 5 ≤ sizeLine; decide, fun LD hLD => ?_⟩⟩⟩⟩
    refine asg_go2 ?_
    dsimp only
    have s3 := ((sa.trans sb).trans sc).new (o := .lst [.ref D2, .str t.atom, .str t.text, .str t.text, .int (t.order : Nat)]) hLD
    have hLDv : upd Hc LD (.lst [.ref D2, .str t.atom, .str t.text, .str t.text, .int (t.order : Nat)]) LD = _ := upd_same
    generalize upd Hc LD (.lst [.ref D2, .str t.atom, .str t.text, .str t.text, .int (t.order : Nat)]) = H4 at s3 hLDv ⊢
    replace ht := IsT.same s3 _ _ ht
    replace hk := IsK.held s3.held _ _ hk
    replace hks := IsKs.held s3.held _ _ hks
    replace his := IsTs.same s3 _ _ his
    replace hb := s3 _ _ hb
    replace hpk := s3 _ _ hpk
    replace hqk := s3 _ _ hqk
    replace hp := s3 _ _ hp
    replace ss := ss.trans s3
    replace hT1 := s3 _ _ hT1
    replace hpA := s3 _ _ hpA
    replace hLTv := s3 _ _ hLTv
    replace hT2 := s3 _ _ hT2
    clear s3 hLD sa sb sc
    -- places
    refine ⟨.ref pk, rfl, .ref pk, t, rfl, hk, tlo, Nat.le_trans ft.few (by decide), fun pP H5 s5 nP hP => ?_⟩
    refine asg_go2 ?_
    dsimp only
    replace ht := IsT.same s5 _ _ ht
    replace hk := IsK.held s5.held _ _ hk
    replace hks := IsKs.held s5.held _ _ hks
    replace his := IsTs.same s5 _ _ his
    replace hb := s5 _ _ hb
    replace hpk := s5 _ _ hpk
    replace hqk := s5 _ _ hqk
    replace hp := s5 _ _ hp
    replace ss := ss.trans s5
    replace hT1 := s5 _ _ hT1
    replace hpA := s5 _ _ hpA
    replace hLTv := s5 _ _ hLTv
    replace hT2 := s5 _ _ hT2
    replace hLDv := s5 _ _ hLDv
    clear s5 nP
    refine ⟨.ref LT, rfl, .ref LD, rfl, .ref pP, rfl, .ref pP, _, rfl, .inl ⟨_, SqL.of hP, rfl⟩, ?_⟩
    have tf := ft.few
    refine ⟨.ref pP, rfl, pP, t.places, rfl, .inr (SqL.of hP), by omega, fun a1 L1 ha1 hL1 mem1 => ⟨a1, L1, rfl, upd_same, by omega, fun y1 p1 pm1 nd1 so1 hp1 => ⟨p1, _, rfl, .inl ⟨SqL.of upd_same, fun t1 ht1 => ⟨by show 2 ≤ sizeLine; decide, fun l2 hl2 => ?_⟩⟩⟩⟩⟩
    have e1 : y1 = ysA := sorted_one _ _ so1 isA.2.1 nd1 isA.1 fun x => (pm1.mem_iff.trans (mem1 x)).trans (isA.2.2.1 x).symm
    subst e1
    have c1 := (Same.refl (upd (upd (upd (upd H5 a1 (SetSO P w a1 L1)) p1 (.lst (y1.map V.str))) t1 (.tup (y1.map V.str))) l2 (.lst [.int ((t.places.map V.str).length : Nat), .ref t1])))
    have c0 := ((((Same.refl H5).new (o := SetSO P w a1 L1) ha1).new (o := .lst (y1.map V.str)) hp1).new (o := .tup (y1.map V.str)) ht1).new (o := .lst [.int ((t.places.map V.str).length : Nat), .ref t1]) hl2
    refine ⟨LD, l2, _, _, rfl, rfl, c0 _ _ hLDv, upd_same, by show 7 ≤ sizeLine; decide, fun l3 hl3 => ?_⟩
    have ht1v := ((((Same.refl (upd (upd (upd H5 a1 (SetSO P w a1 L1)) p1 (.lst (y1.map V.str))) t1 (.tup (y1.map V.str)))).new (o := .lst [.int ((t.places.map V.str).length : Nat), .ref t1]) hl2).new (o := .lst ([.ref D2, .str t.atom, .str t.text, .str t.text, .int (t.order : Nat)] ++ [.int ((t.places.map V.str).length : Nat), .ref t1])) hl3)) _ _ upd_same
    have c2 := c0.new (o := .lst ([.ref D2, .str t.atom, .str t.text, .str t.text, .int (t.order : Nat)] ++ [.int ((t.places.map V.str).length : Nat), .ref t1])) hl3
    have okA : ∀ x ∈ y1, PyData.strOk x = true := fun x hx => wdp x ((isA.2.2.1 x).mp hx)
    have lay := lay_told (o := (t.order : Nat)) (n := (t.places.length : Nat)) oki okA oka okt
    refine ⟨.list [.list ((t.ins.map Ty.text).map PyData.str), .str t.atom, .str t.text, .str t.text, .int (t.order : Nat), .int (t.places.length : Nat), .tuple (y1.map PyData.str)], .list [.list ((t.ins.map Ty.text).map PyData.str), .str t.atom, .str t.text, .str t.text, .int (t.order : Nat), .int (t.places.length : Nat), .tuple (y1.map PyData.str)], .lst (SqL.of (c2 _ _ hLTv)) (.cons (.lst (SqL.of (c2 _ _ hT1)) (dp_textsN _)) (.cons (.str _) (.cons (.str _) (.cons (.str _) (.cons (.int _) (.cons (.int _) (.cons (.tup (SqT.of (c2 _ _ hpA)) (dp_textsN _)) .nil))))))), .lst (SqL.of upd_same) (.cons (.lst (SqL.of (c2 _ _ hT2)) (dp_textsN _)) (.cons (.str _) (.cons (.str _) (.cons (.str _) (.cons (.int _) (.cons (by rw [List.length_map]; exact .int _) (.cons (.tup (SqT.of ht1v) (dp_textsN _)) .nil))))))), lay.2, lay.2, false, congrArg V.bl ?_, iteF ?_⟩
    · rw [PySem.SeqAt.eqv_refl _ lay.1]
      rfl
    refine nx_go ?_
    dsimp only
    show tSeq _ _ _ _ (upd (upd (upd (upd (upd H5 a1 (SetSO P w a1 L1)) p1 (.lst (y1.map V.str))) t1 (.tup (y1.map V.str))) l2 (.lst [.int ((t.places.map V.str).length : Nat), .ref t1])) l3 (.lst ([.ref D2, .str t.atom, .str t.text, .str t.text, .int (t.order : Nat)] ++ [.int ((t.places.map V.str).length : Nat), .ref t1])))
    generalize upd (upd (upd (upd (upd H5 a1 (SetSO P w a1 L1)) p1 (.lst (y1.map V.str))) t1 (.tup (y1.map V.str))) l2 (.lst [.int ((t.places.map V.str).length : Nat), .ref t1])) l3 (.lst ([.ref D2, .str t.atom, .str t.text, .str t.text, .int (t.order : Nat)] ++ [.int ((t.places.map V.str).length : Nat), .ref t1])) = H6 at c2 ⊢
    replace ht := IsT.same c2 _ _ ht
    replace hk := IsK.held c2.held _ _ hk
    replace hks := IsKs.held c2.held _ _ hks
    replace his := IsTs.same c2 _ _ his
    replace hb := c2 _ _ hb
    replace hpk := c2 _ _ hpk
    replace hqk := c2 _ _ hqk
    replace hp := c2 _ _ hp
    replace ss := ss.trans c2
    replace hT2 := c2 _ _ hT2
    replace hLDv := c2 _ _ hLDv
    clear c2 ht1v hl3 c0 c1 hl2 ht1 hp1 ha1 hT1 hpA hLTv hP
    -- signed
    refine ⟨.ref pk, rfl, .ref pk, t, true, rfl, hk, tlo, ft, fun g1 G1 Ha sa na hg1 mg1 lg1 => ?_⟩
    refine ⟨g1, G1, rfl, .inr (SqL.of hg1), by omega, fun a2 L2 ha2 hL2 mem2 => ⟨a2, L2, rfl, upd_same, by omega, fun y2 p2 pm2 nd2 so2 hp2 => ⟨p2, _, rfl, .inl ⟨SqL.of upd_same, fun t2 ht2 => ?_⟩⟩⟩⟩
    have c1 := ((sa.new (o := SetSO P w a2 L2) ha2).new (o := .lst (y2.map V.str)) hp2).new (o := .tup (y2.map V.str)) ht2
    have ht2v : upd (upd (upd Ha a2 (SetSO P w a2 L2)) p2 (.lst (y2.map V.str))) t2 (.tup (y2.map V.str)) t2 = _ := upd_same
    refine ⟨.ref pk, rfl, .ref pk, t, false, rfl, IsK.held c1.held _ _ hk, tlo, ft, fun g3 G3 Hb sb nb hg3 mg3 lg3 => ?_⟩
    refine ⟨g3, G3, rfl, .inr (SqL.of hg3), by omega, fun a4 L4 ha4 hL4 mem4 => ⟨a4, L4, rfl, upd_same, by omega, fun y4 p4 pm4 nd4 so4 hp4 => ⟨p4, _, rfl, .inl ⟨SqL.of upd_same, fun t4 ht4 => ?_⟩⟩⟩⟩
    refine ⟨by show 2 ≤ sizeLine; decide, fun LS hLS => ?_⟩
    refine asg_go2 ?_
    dsimp only
    have c2 := (((sb.new (o := SetSO P w a4 L4) ha4).new (o := .lst (y4.map V.str)) hp4).new (o := .tup (y4.map V.str)) ht4).new (o := .lst [.ref t2, .ref t4]) hLS
    have ht4v := ((Same.refl (upd (upd (upd Hb a4 (SetSO P w a4 L4)) p4 (.lst (y4.map V.str))) t4 (.tup (y4.map V.str)))).new (o := .lst [.ref t2, .ref t4]) hLS) _ _ upd_same
    replace ht2v := c2 _ _ ht2v
    have hLSv : upd (upd (upd (upd Hb a4 (SetSO P w a4 L4)) p4 (.lst (y4.map V.str))) t4 (.tup (y4.map V.str))) LS (.lst [.ref t2, .ref t4]) LS = _ := upd_same
    have c3 := c1.trans c2
    show tSeq _ _ _ _ (upd (upd (upd (upd Hb a4 (SetSO P w a4 L4)) p4 (.lst (y4.map V.str))) t4 (.tup (y4.map V.str))) LS (.lst [.ref t2, .ref t4]))
    generalize upd (upd (upd (upd Hb a4 (SetSO P w a4 L4)) p4 (.lst (y4.map V.str))) t4 (.tup (y4.map V.str))) LS (.lst [.ref t2, .ref t4]) = H7 at c3 ht2v ht4v hLSv ⊢
    replace ht := IsT.same c3 _ _ ht
    replace hk := IsK.held c3.held _ _ hk
    replace hks := IsKs.held c3.held _ _ hks
    replace his := IsTs.same c3 _ _ his
    replace hb := c3 _ _ hb
    replace hpk := c3 _ _ hpk
    replace hqk := c3 _ _ hqk
    replace hp := c3 _ _ hp
    replace ss := ss.trans c3
    replace hT2 := c3 _ _ hT2
    replace hLDv := c3 _ _ hLDv
    clear c3 c2 c1 hLS ht4 hp4 ha4 hg3 nb sb ht2 hp2 ha2 hg1 na sa
    have subP : ∀ x ∈ t.pos, x ∈ t.places := fun x hx => (Ty.signs _ t (Nat.le_refl _) x).mpr (.inl hx)
    have subN : ∀ x ∈ t.neg, x ∈ t.places := fun x hx => (Ty.signs _ t (Nat.le_refl _) x).mpr (.inr hx)
    refine ⟨.ref b, rfl, b, dx, _, rfl, hb, .ref b, t, rfl, ht, tlo, ft, fun pP ysP Ha sa hpP isP => ⟨.ref b, rfl, b, dx, _, rfl, sa _ _ hb, .ref b, t, rfl, IsT.same sa _ _ ht, tlo, ft, fun pN ysN Hb sb hpN isN => ⟨by show 2 ≤ sizeLine; decide, fun La hLa => ?_⟩⟩⟩
    have e2 : y2 = ysP := set_one isP nd2 so2 fun x => (pm2.mem_iff.trans (mem2 x)).trans (by simpa using mg1 x)
    have e4 : y4 = ysN := set_one isN nd4 so4 fun x => (pm4.mem_iff.trans (mem4 x)).trans (by simpa using mg3 x)
    subst e2 e4
    have lay2 := lay_pair (isP.ok ft subP) (isN.ok ft subN)
    have d2 := (sb.new (o := .lst [.ref pP, .ref pN]) hLa)
    have d0 := sa.trans d2
    refine ⟨.ref LS, rfl, _, _, .lst (SqL.of upd_same) (.cons (.tup (SqT.of (d2 _ _ hpP)) (dp_textsN _)) (.cons (.tup (SqT.of (((Same.refl Hb).new (o := .lst [.ref pP, .ref pN]) hLa) _ _ hpN)) (dp_textsN _)) .nil)), .lst (SqL.of (d0 _ _ hLSv)) (.cons (.tup (SqT.of (d0 _ _ ht2v)) (dp_textsN _)) (.cons (.tup (SqT.of (d0 _ _ ht4v)) (dp_textsN _)) .nil)), lay2.2, lay2.2, false, congrArg V.bl ?_, iteF ?_⟩
    · rw [PySem.SeqAt.eqv_refl _ lay2.1]
      rfl
    generalize upd Hb La (.lst [.ref pP, .ref pN]) = H8 at d0 ⊢
    replace ht := IsT.same d0 _ _ ht
    replace hk := IsK.held d0.held _ _ hk
    replace hks := IsKs.held d0.held _ _ hks
    replace his := IsTs.same d0 _ _ his
    replace hb := d0 _ _ hb
    replace hpk := d0 _ _ hpk
    replace hqk := d0 _ _ hqk
    replace hp := d0 _ _ hp
    replace ss := ss.trans d0
    replace hT2 := d0 _ _ hT2
    replace hLDv := d0 _ _ hLDv
    clear d0 d2 hLa hpN sb hpP sa hLSv ht4v ht2v
    -- parts
    refine ⟨.ref b, rfl, b, dx, _, rfl, hb, .ref b, t, rfl, ht, tlo, ft, fun pp rsp us H9 s9 hpp hus is => ⟨pp, rfl, ⟨_, SqT.of hpp⟩, fun D3 hD3 => ?_⟩⟩
    have l1 := hus.len
    have l2 := is.few
    replace ht := IsT.same s9 _ _ ht
    replace hk := IsK.held s9.held _ _ hk
    replace hks := IsKs.held s9.held _ _ hks
    replace his := IsTs.same s9 _ _ his
    replace hb := s9 _ _ hb
    replace hpk := s9 _ _ hpk
    replace hqk := s9 _ _ hqk
    replace hp := s9 _ _ hp
    replace ss := ss.trans s9
    replace hT2 := s9 _ _ hT2
    replace hLDv := s9 _ _ hLDv
    clear s9
    refine lc_tup (xs := rsp) (fun i H' => H' D3 = some (.lst (((us.take i).map Ty.text).map V.str)) ∧ Same H9 H') ⟨by rw [upd_same, List.take_zero]; rfl, (Same.refl _).mut hD3⟩ (fun i H' _ hP => SqT.of (hP.2 _ _ hpp)) (fun i y H' hy hP => ?_) (fun H' hP => ?_)
    · obtain ⟨hE, sm⟩ := hP
      obtain ⟨u, eu, hu⟩ := hus.get hy
      obtain ⟨c, dxc, pc, qc, rsc, rfl, hc, _⟩ := (IsT.same sm u y hu).at
      have io := lt_of_get hy
      refine ⟨rfl, tyes ?_⟩
      refine ⟨.ref c, rfl, c, dxc, _, rfl, hc, c, dxc, _, .str u.text, rfl, hc, rfl, _, hE, lt_line' ?_, ?_, sm.mut hD3⟩
      · rw [List.length_map, List.length_map, List.length_take]
        omega
      · rw [upd_same, take_next eu, List.map_append, List.map_append]
        rfl
    obtain ⟨hT3, sm⟩ := hP
    rw [l1, List.take_length] at hT3
    replace ht := IsT.same sm _ _ ht
    replace hk := IsK.held sm.held _ _ hk
    replace hks := IsKs.held sm.held _ _ hks
    replace his := IsTs.same sm _ _ his
    replace hb := sm _ _ hb
    replace hpk := sm _ _ hpk
    replace hqk := sm _ _ hqk
    replace hp := sm _ _ hp
    replace ss := ss.trans sm
    replace hT2 := sm _ _ hT2
    replace hLDv := sm _ _ hLDv
    clear sm
    refine ⟨.ref pk, rfl, .ref pk, t, rfl, hk, tlo, tlo, ft, fun pX X H10 sx nX hX tx => ?_⟩
    have eX : X = us.map Ty.text := sorted_one _ _ tx.2.1 is.tx.2.1 tx.1 is.tx.1 fun x => (tx.2.2.1 x).trans (is.tx.2.2.1 x).symm
    subst eX
    have layX := lay_flat (TX.ok ft tx)
    refine ⟨_, _, .lst (SqL.of (sx _ _ hT3)) (dp_textsN _), .lst (SqL.of hX) (dp_textsN _), layX.2, layX.2, false, congrArg V.bl ?_, iteF ?_⟩
    · rw [PySem.SeqAt.eqv_refl _ layX.1]
      rfl
    refine nx_go ?_
    dsimp only
    replace ht := IsT.same sx _ _ ht
    replace hk := IsK.held sx.held _ _ hk
    replace hks := IsKs.held sx.held _ _ hks
    replace his := IsTs.same sx _ _ his
    replace hb := sx _ _ hb
    replace hpk := sx _ _ hpk
    replace hqk := sx _ _ hqk
    replace hp := sx _ _ hp
    replace ss := ss.trans sx
    replace hT2 := sx _ _ hT2
    replace hLDv := sx _ _ hLDv
    clear sx hX nX hT3 layX tx
    -- the arguments, walked
    have layI := lay_flat oki
    refine ⟨.ref b, rfl, b, dx, _, rfl, hb, fun n => ⟨.ref b, t, rfl, ht, fun it l rs2 n1 n2 hl hrs => ?_⟩⟩
    refine ⟨it, l, rfl, n1, upd_same, ?_⟩
    rw [ItX.dropH_upd n2]
    refine ⟨⟨rs2, SqT.of hl⟩, fun D4 hD4 => ?_⟩
    have lr2 := hrs.len
    refine lc_tup (xs := rs2) (fun i H' => H' D4 = some (.lst (((t.ins.take i).map Ty.text).map V.str)) ∧ Same H10 H') ⟨by rw [upd_same, List.take_zero]; rfl, (Same.refl _).mut hD4⟩ (fun i H' _ hP => SqT.of (hP.2 _ _ hl)) (fun i y H' hy hP => ?_) (fun H11 hP => ?_)
    · obtain ⟨hE, sm⟩ := hP
      obtain ⟨u, eu, hu⟩ := hrs.get hy
      obtain ⟨c, dxc, pc, qc, rsc, rfl, hc, _⟩ := (IsT.same sm u y hu).at
      have io := lt_of_get hy
      refine ⟨rfl, tyes ?_⟩
      refine ⟨.ref c, rfl, c, dxc, _, rfl, hc, c, dxc, _, .str u.text, rfl, hc, rfl, _, hE, lt_line' ?_, ?_, sm.mut hD4⟩
      · rw [List.length_map, List.length_map, List.length_take]
        omega
      · rw [upd_same, take_next eu, List.map_append, List.map_append]
        rfl
    obtain ⟨hT4, sm⟩ := hP
    rw [lr2, List.take_length] at hT4
    replace ht := IsT.same sm _ _ ht
    replace hk := IsK.held sm.held _ _ hk
    replace hks := IsKs.held sm.held _ _ hks
    replace his := IsTs.same sm _ _ his
    replace hb := sm _ _ hb
    replace hpk := sm _ _ hpk
    replace hqk := sm _ _ hqk
    replace hp := sm _ _ hp
    replace ss := ss.trans sm
    replace hT2 := sm _ _ hT2
    replace hLDv := sm _ _ hLDv
    clear sm n2
    refine ⟨.ref LD, rfl, LD, _, 0, .ref D2, rfl, rfl, SqL.of hLDv, rfl, _, _, .lst (SqL.of hT4) (dp_textsN _), .lst (SqL.of hT2) (dp_textsN _), layI.2, layI.2, false, congrArg V.bl ?_, iteF ?_⟩
    · rw [PySem.SeqAt.eqv_refl _ layI.1]
      rfl
    -- by number
    refine ⟨.ref pk, rfl, pk, _, 0, _, rfl, rfl, SqT.of hpk, rfl, .ref qk, _, rfl, .inr ⟨_, SqT.of hqk, rfl⟩, (rk.length : Int), rfl, by omega, by omega, fun D5 hD5 => ?_⟩
    refine lc_range (lo := 0) (n := rk.length) (fun i H' => H' D5 = some (.lst (((t.ins.take i).map Ty.text).map V.str)) ∧ Same H11 H') ⟨by rw [upd_same, List.take_zero]; rfl, (Same.refl _).mut hD5⟩ (fun i H' hi hP => ?_) (fun H' hP => ?_)
    · obtain ⟨hE, sm⟩ := hP
      refine ⟨rfl, tyes ?_⟩
      refine ⟨.ref b, rfl, .int (0 + (i : Int)), rfl, b, dx, _, rfl, sm _ _ hb, .ref b, t, i, by rw [Int.zero_add], IsT.same sm _ _ ht, by omega, ft, fun u w Hk sk eu hw => ?_⟩
      obtain ⟨c, dxc, pc, qc, rsc, rfl, hc, _⟩ := hw.at
      refine ⟨c, dxc, _, rfl, hc, c, dxc, _, .str u.text, rfl, hc, rfl, _, sk _ _ hE, lt_line' ?_, ?_, (sm.trans sk).mut hD5⟩
      · rw [List.length_map, List.length_map, List.length_take]
        omega
      · rw [upd_same, take_next eu, List.map_append, List.map_append]
        rfl
    obtain ⟨hT5, sm⟩ := hP
    rw [lk, List.take_length] at hT5
    replace ht := IsT.same sm _ _ ht
    replace hk := IsK.held sm.held _ _ hk
    replace hks := IsKs.held sm.held _ _ hks
    replace his := IsTs.same sm _ _ his
    replace hb := sm _ _ hb
    replace hpk := sm _ _ hpk
    replace hqk := sm _ _ hqk
    replace hp := sm _ _ hp
    replace ss := ss.trans sm
    replace hT2 := sm _ _ hT2
    replace hLDv := sm _ _ hLDv
    clear sm
    refine ⟨.ref LD, rfl, LD, _, 0, .ref D2, rfl, rfl, SqL.of hLDv, rfl, _, _, .lst (SqL.of hT5) (dp_textsN _), .lst (SqL.of hT2) (dp_textsN _), layI.2, layI.2, false, congrArg V.bl ?_, iteF ?_⟩
    · rw [PySem.SeqAt.eqv_refl _ layI.1]
      rfl
    refine nx_go ?_
    dsimp only
    clear hT5 hD5 hT4 hD4 hl hrs hLDv hT2
    -- the parts are in it
    refine ⟨.ref b, rfl, b, dx, _, rfl, hb, .ref b, t, rfl, ht, tlo, ft, fun pp2 rsp2 us2 H13 s13 hpp2 hus2 is2 => ⟨pp2, rfl, ⟨_, SqT.of hpp2⟩, fun D7 hD7 => ?_⟩⟩
    replace ht := IsT.same s13 _ _ ht
    replace hk := IsK.held s13.held _ _ hk
    replace hks := IsKs.held s13.held _ _ hks
    replace his := IsTs.same s13 _ _ his
    replace hb := s13 _ _ hb
    replace hpk := s13 _ _ hpk
    replace hqk := s13 _ _ hqk
    replace hp := s13 _ _ hp
    replace ss := ss.trans s13
    clear s13
    refine lc_tup (xs := rsp2) (fun i H' => H' D7 = some (.lst []) ∧ Same H13 H') ⟨upd_same, (Same.refl _).mut hD7⟩ (fun i H' _ hP => SqT.of (hP.2 _ _ hpp2)) (fun i y H' hy hP => ?_) (fun H14 hP => ?_)
    · obtain ⟨hE, sm⟩ := hP
      obtain ⟨u, eu, hu⟩ := hus2.get hy
      have hwt : u.text ∈ t.parts.map Ty.text := List.mem_map_of_mem (is2.sub u (List.mem_of_getElem? eu))
      refine ⟨rfl, ?_⟩
      refine ⟨y, rfl, .ref b, rfl, b, dx, _, rfl, sm _ _ hb, .ref b, y, t, rfl, IsT.same sm _ _ ht, ft, .inl ⟨u, IsT.same sm _ _ hu, fun Hk sk => ⟨true, congrArg V.bl (decide_eq_true hwt), false, rfl, iteF ?_⟩⟩⟩
      exact ⟨sk _ _ hE, sm.trans sk⟩
    obtain ⟨hE, sm⟩ := hP
    replace ht := IsT.same sm _ _ ht
    replace hk := IsK.held sm.held _ _ hk
    replace hks := IsKs.held sm.held _ _ hks
    replace his := IsTs.same sm _ _ his
    replace hb := sm _ _ hb
    replace hpk := sm _ _ hpk
    replace hqk := sm _ _ hqk
    replace hp := sm _ _ hp
    replace ss := ss.trans sm
    clear sm
    refine ⟨Nat.zero_le _, fun le hle => ?_⟩
    have hDf : upd H14 le (.lst []) D7 = some (.lst []) := by rw [upd_ne (ne_of_none hE hle)]; exact hE
    have sF : Same H14 (upd H14 le (.lst [])) := (Same.refl H14).new hle
    refine ⟨.list [], .list [], .lst (SqL.of hDf) .nil, .lst (SqL.of upd_same) .nil, rfl, rfl, false, congrArg V.bl (by simp [PyData.eqv, PyData.eqvAll]), iteF ?_⟩
    refine nx_go ?_
    dsimp only
    generalize upd H14 le (.lst []) = H15 at sF ⊢
    replace ht := IsT.same sF _ _ ht
    replace hk := IsK.held sF.held _ _ hk
    replace hks := IsKs.held sF.held _ _ hks
    replace his := IsTs.same sF _ _ his
    replace hb := sF _ _ hb
    replace hpk := sF _ _ hpk
    replace hqk := sF _ _ hqk
    replace hp := sF _ _ hp
    replace ss := ss.trans sF
    clear sF hDf hE hle
    -- odd
    refine ⟨.ref b, rfl, b, dx, _, rfl, hb, b, dx, _, .str t.text, rfl, hb, rfl, Nat.zero_le _, fun o1 ho1 => ?_⟩
    have n1 : Same H15 (upd H15 o1 (.tup [])) := (Same.refl H15).new ho1
    refine ⟨.ref b, rfl, b, dx, _, rfl, n1 _ _ hb, b, dx, _, .ref p, rfl, n1 _ _ hb, rfl, .ref b, rfl, by show 1 ≤ sizeLine; decide, fun o2 ho2 => fun o3 ho3 => ?_⟩
    have n3 := (n1.new (o := .lst [.ref b]) ho2).new (o := .dK []) ho3
    refine ⟨.ref b, rfl, b, dx, _, rfl, n3 _ _ hb, b, dx, _, .str t.atom, rfl, n3 _ _ hb, rfl, rfl, "zz", rfl, fitZ.1, fun z H16 sz hz => ⟨by show 9 ≤ sizeLine; decide, fun LO hLO => ?_⟩⟩
    refine asg_go2 ?_
    dsimp only
    have n4 := sz.new (o := .lst [.non, .int 0, .str t.text, .ref o1, .ref p, .ref o2, .ref o3, .str t.atom, .ref z]) hLO
    have hLOv : upd H16 LO (.lst [.non, .int 0, .str t.text, .ref o1, .ref p, .ref o2, .ref o3, .str t.atom, .ref z]) LO = _ := upd_same
    have v1 := (((Same.refl (upd H15 o1 (.tup []))).new (o := .lst [.ref b]) ho2).new (o := .dK []) ho3).trans n4 _ _ (upd_same (H := H15) (o := .tup []))
    have v2 := ((Same.refl (upd (upd H15 o1 (.tup [])) o2 (.lst [.ref b]))).new (o := .dK []) ho3).trans n4 _ _ upd_same
    have v3 := n4 _ _ (upd_same (H := upd (upd H15 o1 (.tup [])) o2 (.lst [.ref b])) (a := o3) (o := .dK []))
    replace hz := IsT.same ((Same.refl H16).new (o := .lst [.non, .int 0, .str t.text, .ref o1, .ref p, .ref o2, .ref o3, .str t.atom, .ref z]) hLO) _ _ hz
    have n5 := n3.trans n4
    generalize upd H16 LO (.lst [.non, .int 0, .str t.text, .ref o1, .ref p, .ref o2, .ref o3, .str t.atom, .ref z]) = H17 at n5 hLOv v1 v2 v3 hz ⊢
    replace ht := IsT.same n5 _ _ ht
    replace hk := IsK.held n5.held _ _ hk
    replace hks := IsKs.held n5.held _ _ hks
    replace his := IsTs.same n5 _ _ his
    replace hb := n5 _ _ hb
    replace hpk := n5 _ _ hpk
    replace hqk := n5 _ _ hqk
    replace hp := n5 _ _ hp
    replace ss := ss.trans n5
    clear n5 n4 n3 n1 hLO sz ho3 ho2 ho1
    have X := T.x_Type
    have each : ∀ y ∈ ([.non, .int 0, .str t.text, .ref o1, .ref p, .ref o2, .ref o3, .str t.atom, .ref z] : List V), ∀ H', Same H17 H' → (∃ o, IsT C_Type H' o y ∧ decide (o.text ∈ t.parts.map Ty.text) = false) ∨ Odd K C_Type H' y := fun y hy H' sm => by
      simp only [List.mem_cons, List.not_mem_nil, or_false] at hy
      rcases hy with rfl | rfl | rfl | rfl | rfl | rfl | rfl | rfl | rfl
      · exact .inr ⟨_, .base .non, X.odd_NoneType⟩
      · exact .inr ⟨_, .base (.int _), X.odd_int⟩
      · exact .inr ⟨_, .base (.str _), X.odd_str⟩
      · exact .inr ⟨_, .base (.tup (sm _ _ v1)), X.odd_tuple⟩
      · exact .inr ⟨_, .base (.tup (sm _ _ hp)), X.odd_tuple⟩
      · exact .inr ⟨_, .base (.lst (sm _ _ v2)), X.odd_list⟩
      · exact .inr ⟨_, .base (.dK (sm _ _ v3)), X.odd_dict⟩
      · exact .inr ⟨_, .base (.str _), X.odd_str⟩
      · exact .inl ⟨_, IsT.same sm _ _ hz, decide_eq_false (by rw [xZ]; exact zz)⟩
    refine ⟨.ref LO, rfl, LO, rfl, ⟨_, SqL.of hLOv⟩, fun D8 hD8 => ?_⟩
    refine lc_list (xs := [.non, .int 0, .str t.text, .ref o1, .ref p, .ref o2, .ref o3, .str t.atom, .ref z]) (fun i H' => H' D8 = some (.lst []) ∧ Same H17 H') ⟨upd_same, (Same.refl _).mut hD8⟩ (fun i H' _ hP => SqL.of (hP.2 _ _ hLOv)) (fun i y H' hy hP => ?_) (fun H18 hP => ?_)
    · obtain ⟨hE, sm⟩ := hP
      refine ⟨rfl, ?_⟩
      refine ⟨y, rfl, .ref b, rfl, b, dx, _, rfl, sm _ _ hb, .ref b, y, t, rfl, IsT.same sm _ _ ht, ft, ?_⟩
      rcases each y (List.mem_of_getElem? hy) H' sm with ⟨o, ho, ne⟩ | od
      · exact .inl ⟨o, ho, fun Hk sk => ⟨false, congrArg V.bl ne, false, rfl, iteF ⟨sk _ _ hE, sm.trans sk⟩⟩⟩
      · exact .inr ⟨od, fun Hk sk => ⟨false, rfl, false, rfl, iteF ⟨sk _ _ hE, sm.trans sk⟩⟩⟩
    obtain ⟨hE, sm⟩ := hP
    refine ⟨Nat.zero_le _, fun le hle => ?_⟩
    have hDf : upd H18 le (.lst []) D8 = some (.lst []) := by rw [upd_ne (ne_of_none hE hle)]; exact hE
    refine ⟨.list [], .list [], .lst (SqL.of hDf) .nil, .lst (SqL.of upd_same) .nil, rfl, rfl, ?_⟩
    rw [show PyData.eqv (.list []) (.list []) = true by simp [PyData.eqv, PyData.eqvAll]]
    exact q _ ((ss.trans sm).new hle)
end


end My
namespace My
open PySem PySem.Spec PyProof.Rows L2 TL
set_option pp.maxSteps 6000
set_option pp.deepTerms false
theorem text_long {u : Ty} (h : u.ins ≠ []) : 4 ≤ u.text.length := by
  have et : u.text = Txt.join " -> " (Ty.insideL u.ins ++ [u.atom]) := by cases u; rw [Ty.text]; rfl
  have ln : (Ty.insideL u.ins).length = u.ins.length := by rw [Ty.insideL_map, List.length_map]
  have i4 : ((" -> " : Str)).length = 4 := by decide +kernel
  have pos : 0 < u.ins.length := List.length_pos_iff.mpr h
  rw [et, join_len, List.length_append, ln, i4]
  show _ ≤ _ + (u.ins.length + 1 - 1) * 4
  omega
theorem places_parts : ∀ (n : Nat) (t : Ty), t.places.length ≤ n → ∀ u ∈ t.parts, ∀ a ∈ u.places, a ∈ t.places
  | 0, t, h, _, _, _, _ => absurd (Ty.places_pos t) (by omega)
  | n + 1, t, h, u, hu, a, ha => by
    rcases (Ty.mem_parts t).mp hu with e | ⟨s, hs, hu⟩
    · rw [← e]
      exact ha
    · have l1 : s.places.length ≤ (Ty.placesL t.ins).length := Ty.few_ins hs
      have l2 : t.places.length = (Ty.placesL t.ins).length + 1 := by rw [Ty.places_at, List.length_append]; rfl
      have := places_parts n s (by omega) u hu a ha
      rw [Ty.places_at]
      exact List.mem_append_left _ ((Ty.mem_placesL' t.ins).mpr ⟨s, hs, this⟩)
theorem no_zz {t : Ty} (h : ∀ x ∈ t.places, x ∈ (["a", "b", "c", "dd"] : List Str)) : ("zz" : Str) ∉ t.parts.map Ty.text := fun hz => by
  obtain ⟨u, hu, e⟩ := List.mem_map.mp hz
  have ei : u.ins = [] := Classical.byContradiction fun k => by
    have := text_long k
    rw [e] at this
    exact absurd this (by decide +kernel)
  have ha := h u.atom (places_parts _ t (Nat.le_refl _) u hu u.atom (by rw [Ty.places_at]; exact List.mem_append_right _ (List.mem_singleton.mpr rfl)))
  have eu : u = .mk [] u.atom := by rw [← ei]; exact (Ty.mk_eta u).symm
  rw [eu] at e
  generalize u.atom = a at ha e
  simp only [List.mem_cons, List.not_mem_nil, or_false] at ha
  rcases ha with rfl | rfl | rfl | rfl <;> exact absurd e (by decide +kernel)
theorem abcd2_wd : ∀ x ∈ (["a", "b", "c", "dd"] : List Str), Wd x := by
  have h : (["a", "b", "c", "dd"] : List Str).all (fun x => isW (.str x) && x.cps.toList.all fun c => decide (c < 128)) = true := by decide +kernel
  exact fun x hx => by
    have := List.all_eq_true.mp h x hx
    rw [Bool.and_eq_true] at this
    exact ⟨this.1, fun c hc => of_decide_eq_true (List.all_eq_true.mp this.2 c hc)⟩
theorem pick4 {x : V} (h : x ∈ [V.int 1, V.int 4, V.int 9, V.int 15]) : ∃ m : Nat, x = .int m ∧ 1 ≤ m ∧ m ≤ 15 := by
  rcases List.mem_cons.mp h with e | h
  · exact ⟨1, e, by decide, by decide⟩
  rcases List.mem_cons.mp h with e | h
  · exact ⟨4, e, by decide, by decide⟩
  rcases List.mem_cons.mp h with e | h
  · exact ⟨9, e, by decide, by decide⟩
  · exact ⟨15, List.mem_singleton.mp h, by decide, by decide⟩
def sp__law_right (_ : PySem.W.Frag) (_ : Addr) : Sp := fun vs H Q _ => ∃ d, vs = [.ref d] ∧ IsDice H d ∧ ∀ H', Ext d H H' → IsDice H' d → Q (.bl true) H'
section
variable {P : Program} {w : World} {K : PySem.W.Frag} {mg : Str → Option Value} {base : Heap} {C_Type : Addr}
theorem ok__law_right (T : Txt K mg C_Type) (c__law_kind : Cal P w K mg base "_law_kind" 14 ["_law_dice_here", "_law_atoms", "_law_order_here", "_law_most"] (sp__law_kind K)) (c__law_made_kind : Cal P w K mg base "_law_made_kind" 12 ["_law_kind_here"] (sp__law_made_kind K C_Type)) (c__law_roll : Cal P w K mg base "_law_roll" 1 ["_law_dice_here", "_law_total"] (sp__law_roll K)) (c__law_pick : Cal P w K mg base "_law_pick" 2 ["_law_dice_here", "_law_items"] (sp__law_pick K)) (c__law_told_right : Cal P w K mg base "_law_told_right" 18 ["_law_made", "_law_kind_here"] (sp__law_told_right K C_Type)) (i_Type___init__ : MakC P w K mg base C_Type 4 ["self", "inputs", "atom"] (sp_Type___init__ K C_Type)) (p_Type_text : PrpC P w K mg base C_Type "text" 1 ["self"] (getSp C_Type "_text")) (c__law_text : Cal P w K mg base "_law_text" 7 ["_law_kind_here"] (sp__law_text K)) (p_Type_inputs : PrpC P w K mg base C_Type "inputs" 1 ["self"] (getSp C_Type "_inputs")) (p_Type_atom : PrpC P w K mg base C_Type "atom" 1 ["self"] (getSp C_Type "_atom")) (m_Type___eq__ : MetC P w K mg base C_Type "__eq__" 1 ["self", "other"] (sp_Type_eqX K C_Type)) {f : Addr} {fd : FuncData} (F : Fun K "_law_right" "_law_right" s__law_right f fd) : FnOkG P w K mg base CX0 19 f fd ["_law_dice_here"] (sp__law_right K C_Type) := by
  have nd := sc__law_right.nd
  refine F.okG sc__law_right (fun vs H Q E h => ?_) (fun cdv A outer s H vs Q E hr hG h => ?_)
  · obtain ⟨d, rfl, _⟩ := h
    rfl
  · obtain ⟨d, rfl, hd, q⟩ := h
    refine ⟨_, (pss_cons (ps_set (i := 1) nd rfl (.inl rfl) (pe_callC c__law_kind (hr.mono (by first | decide | omega)) hG rfl (pa_cons (pv 0) (pa_cons (pe_lst (pa_cons pe_str (pa_cons pe_str (pa_cons pe_str (pa_cons pe_str pa_nil))))) (pa_cons (pe_callC c__law_roll (hr.mono (by first | decide | omega)) hG rfl (pa_cons (pv 0) (pa_cons pe_int pa_nil))) (pa_cons (pe_callC c__law_pick (hr.mono (by first | decide | omega)) hG rfl (pa_cons (pv 0) (pa_cons (pe_lst (pa_cons pe_int (pa_cons pe_int (pa_cons pe_int (pa_cons pe_int pa_nil))))) pa_nil))) pa_nil))))))
      (pss_cons (ps_set (i := 2) nd rfl (.inl rfl) (pe_callC c__law_kind (hr.mono (by first | decide | omega)) hG rfl (pa_cons (pv 0) (pa_cons (pe_lst (pa_cons pe_str (pa_cons pe_str pa_nil))) (pa_cons pe_int (pa_cons pe_int pa_nil))))))
      (pss_cons (ps_set (i := 3) nd rfl (.inl rfl) (pe_callC c__law_made_kind (hr.mono (by first | decide | omega)) hG rfl (pa_cons (pv 1) pa_nil)))
      (pss_cons (ps_if (PW.pt (pw_or (pt_not (pt_val (pe_callC c__law_told_right (hr.mono (by first | decide | omega)) hG rfl (pa_cons (pv 3) (pa_cons (pv 1) pa_nil))))) (pw_or (pt_cmpR (op_neC m_Type___eq__ (hr.mono (by first | decide | omega)) T.x_Type.nfirst T.x_Type.ne T.x_Type.under) (pv 3) (pe_makeC i_Type___init__ (hr.mono (by first | decide | omega)) rfl T.c_Type (pa_cons (pe_propC p_Type_inputs T.k_Type (hr.mono (by first | decide | omega)) (pv 3)) (pa_cons (pe_propC p_Type_atom T.k_Type (hr.mono (by first | decide | omega)) (pv 3)) pa_nil))) (nomark _)) (pw_or (pt_cmpR (op_eqX m_Type___eq__ (hr.mono (by first | decide | omega))) (pv 3) (pe_propC p_Type_text T.k_Type (hr.mono (by first | decide | omega)) (pv 3)) (nomark _)) (pw_or1 (pt_cmpR (op_eqX m_Type___eq__ (hr.mono (by first | decide | omega))) (pv 3) (pv 1) (nomark _))))))) (pss_one (ps_ret pe_bl)) pss_nil)
      (pss_one (ps_ret (pe_cmpR op_eq (pe_cmpR (op_eqC m_Type___eq__ (hr.mono (by first | decide | omega)) T.x_Type.nfirst) (pv 3) (pe_callC c__law_made_kind (hr.mono (by first | decide | omega)) hG rfl (pa_cons (pv 2) pa_nil)) (nomark _)) (pe_cmpR op_eq (pe_callC c__law_text (hr.mono (by first | decide | omega)) hG rfl (pa_cons (pv 1) pa_nil)) (pe_callC c__law_text (hr.mono (by first | decide | omega)) hG rfl (pa_cons (pv 2) pa_nil)) (nomark _)) (nomark _)))))))), ?_⟩
    refine ⟨.ref d, rfl, by show 4 ≤ sizeLine; decide, fun l1 hl1 => ?_⟩
    have dA : IsDice (upd H l1 (.lst [.str "a", .str "b", .str "c", .str "dd"])) d := hd.new hl1
    have nl : l1 ≠ d := hd.ne hl1
    refine ⟨.ref d, rfl, d, 5, rfl, dA, by decide, by decide, fun r H1 r0 r1 e1 d1 => ?_⟩
    have er : r = (r.toNat : Int) := (Int.toNat_of_nonneg r0).symm
    refine ⟨.ref d, rfl, by show 4 ≤ sizeLine; decide, fun l2 hl2 => ?_⟩
    refine ⟨d, l2, _, rfl, d1.new hl2, SqL.of upd_same, d1.ne hl2, by simp, by show 4 < 1000000; decide, fun y H2 hy e2 d2 => ?_⟩
    obtain ⟨m, rfl, m1, m15⟩ := pick4 hy
    have hA2 : H2 l1 = some (.lst [.str "a", .str "b", .str "c", .str "dd"]) := e2 _ _ nl (by rw [upd_ne (ne_of_none (e1 _ _ nl upd_same) hl2)]; exact e1 _ _ nl upd_same)
    refine ⟨d, l1, ["a", "b", "c", "dd"], r.toNat, m, by rw [er]; rfl, d2, hA2, nl, by simp, by decide, by omega, by omega, m1, by omega, fun v t H3 hk lo le ins e3 d3 => ?_⟩
    refine asg_go2 ?_
    dsimp only
    have ft : t.Fits := ⟨fun a ha => abcd2_wd a (ins a ha), by omega, by omega⟩
    have tlo : t.order < 6 := Nat.lt_of_le_of_lt ft.low (by decide)
    have eA : Ext d H H3 := ((((Ext.refl H).new hl1).trans e1).new hl2 |>.trans e2).trans e3
    refine ⟨.ref d, rfl, by show 2 ≤ sizeLine; decide, fun l3 hl3 => ?_⟩
    refine ⟨d, l3, ["a", "b"], 2, 4, rfl, d3.new hl3, upd_same, d3.ne hl3, by simp, by decide, by decide, by decide, by decide, by decide, fun v2 t2 H5 hk2 lo2 le2 ins2 e5 d5 => ?_⟩
    refine asg_go2 ?_
    dsimp only
    have ft2 : t2.Fits := ⟨fun a ha => abcd2_wd a (by
      have := ins2 a ha
      simp only [List.mem_cons, List.not_mem_nil, or_false] at this ⊢
      rcases this with h | h
      · exact .inl h
      · exact .inr (.inl h)), by omega, by omega⟩
    have tlo2 : t2.order < 6 := Nat.lt_of_le_of_lt ft2.low (by decide)
    replace hk := IsK.held (e5.held (d3.new hl3)) _ _ (IsK.held ((Same.refl H3).new (o := .lst [.str "a", .str "b"]) hl3).held _ _ hk)
    have ee : Ext d H H5 := (eA.new hl3).trans e5
    refine ⟨v, rfl, v, t, rfl, hk, tlo, ft, fun x1 H6 s6 h1 => ?_⟩
    refine asg_go2 ?_
    dsimp only
    replace hk := IsK.held s6.held _ _ hk
    replace hk2 := IsK.held s6.held _ _ hk2
    have d6 := d5.same s6
    replace ee := ee.trans (Ext.same s6)
    obtain ⟨x1', dx, p, pq, rs, eb, hb, hp, his, _⟩ := id h1.at
    cases eb
    obtain ⟨pk, qk, rk, rfl, hpk, _⟩ := id hk.at
    have ft' : (Ty.mk t.ins t.atom).Fits := by rw [Ty.mk_eta]; exact ft
    have X := T.x_Type
    refine ⟨.ref x1, rfl, .ref pk, rfl, .ref x1, .ref pk, t, rfl, h1, hk, ft, no_zz ins, fun G1 s1 => ⟨true, rfl, iteF ?_⟩⟩
    refine ⟨.ref x1, rfl, .ref x1, rfl, x1, dx, _, rfl, s1 _ _ hb, x1, dx, _, .ref p, rfl, s1 _ _ hb, rfl, .ref x1, rfl, x1, dx, _, rfl, s1 _ _ hb, x1, dx, _, .str t.atom, rfl, s1 _ _ hb, rfl, ?_⟩
    have mk : ∀ (k : VK) (E : XK), (∀ x H', Same G1 H' → IsT C_Type H' (.mk t.ins t.atom) (.ref x) → rOwnNe C_Type (sp_Type_eqX K C_Type) E0 (.ref x1) (.ref x) H' k) →
        ∀ x dx, G1 x = none → G1 dx = none → dx ≠ x → sp_Type___init__ K C_Type (.ref x :: ([.ref p, .str t.atom] ++ [])) (upd (upd G1 dx (.own x)) x (.ins C_Type dx [])) (fun v H2 => v = .non ∧ rOwnNe C_Type (sp_Type_eqX K C_Type) E0 (.ref x1) (.ref x) H2 k) E :=
      fun k E hk => make_ty (Q := fun y H2 => rOwnNe C_Type (sp_Type_eqX K C_Type) E0 (.ref x1) y H2 k) (s1 _ _ hp) (IsTs.same s1 _ _ his) ft' hk
    refine mk _ _ fun x G2 s2 hx => ?_
    obtain ⟨x', dx', p', pq', rs', ex, hbx, _⟩ := hx.at
    cases ex
    have s12 := s1.trans s2
    refine ⟨x1, dx, _, x, dx', _, rfl, rfl, s12 _ _ hb, hbx, .ref x1, .ref x, t, rfl, IsT.same s12 _ _ h1, .inl ⟨_, hx, fun G3 s3 => ⟨true, congrArg V.bl (decide_eq_true (by rw [Ty.mk_eta])), false, rfl, iteF ?_⟩⟩⟩
    have s13 := s12.trans s3
    refine ⟨.ref x1, rfl, .ref x1, rfl, x1, dx, _, rfl, s13 _ _ hb, x1, dx, _, .str t.text, rfl, s13 _ _ hb, rfl, x1, dx, _, .type "str", rfl, s13 _ _ hb, .base (.str _), X.nf_str, .ref x1, .str t.text, t, rfl, IsT.same s13 _ _ h1, .inr ⟨⟨_, .base (.str _), X.odd_str⟩, fun G4 s4 => ⟨false, rfl, iteF ?_⟩⟩⟩
    have s14 := s13.trans s4
    refine ⟨.ref x1, rfl, .ref pk, rfl, x1, dx, _, .type "tuple", rfl, s14 _ _ hb, .base (.tup (s14 _ _ hpk)), X.nf_tuple, .ref x1, .ref pk, t, rfl, IsT.same s14 _ _ h1, .inr ⟨⟨_, .base (.tup (s14 _ _ hpk)), X.odd_tuple⟩, fun G5 s5 => ⟨false, rfl, iteF ?_⟩⟩⟩
    refine nx_go ?_
    dsimp only
    have s15 := s14.trans s5
    refine ⟨.ref x1, rfl, v2, rfl, v2, t2, rfl, IsK.held s15.held _ _ hk2, tlo2, ft2, fun x2 G6 s6' h2 => ?_⟩
    obtain ⟨x2', dx2, p2, pq2, rs2, ex2, hb2, _⟩ := h2.at
    cases ex2
    have s16 := s15.trans s6'
    refine ⟨x1, dx, _, x2, dx2, _, rfl, rfl, s16 _ _ hb, hb2, .ref x1, .ref x2, t, rfl, IsT.same s16 _ _ h1, .inl ⟨t2, h2, fun G7 s7 => ?_⟩⟩
    have s17 := s16.trans s7
    refine ⟨.ref pk, rfl, .ref pk, t, rfl, IsK.held s17.held _ _ hk, tlo, ft, fun G8 s8 => ?_⟩
    have s18 := s17.trans s8
    refine ⟨v2, rfl, v2, t2, rfl, IsK.held s18.held _ _ hk2, tlo2, ft2, fun G9 s9 => ⟨rfl, rfl, ?_⟩⟩
    rw [show decide (V.bl (decide (t.text = t2.text)) = V.bl (decide (V.str t.text = V.str t2.text))) = true by simp]
    exact q _ (ee.trans (Ext.same (s18.trans s9))) (d6.same (s18.trans s9))
end


end My
namespace My
open PySem PySem.Spec PyProof.Rows L2 TL
set_option pp.maxSteps 6000
set_option pp.deepTerms false
abbrev tK : Ty := .mk [tAB, tA] "c"
theorem plK : tK.places = (["a", "b", "a", "c"] : List Str) := by decide +kernel
theorem orK : tK.order = 2 := by decide +kernel
theorem fitK : tK.Fits := ⟨fun a ha => by
  rw [plK] at ha
  refine abc_wd a ?_
  simp only [List.mem_cons, List.not_mem_nil, or_false] at ha ⊢
  rcases ha with h | h | h | h
  · exact .inl h
  · exact .inr (.inl h)
  · exact .inl h
  · exact .inr (.inr h), by rw [plK]; decide, by rw [orK]; decide⟩
theorem xK : tK.text = ("(a -> b) -> a -> c" : Str) := by decide +kernel
theorem rK : Reads 4 "(a -> b) -> a -> c" tK :=
  .mk (qs := ["(a -> b)", "a"]) (a := "c") ⟨by decide +kernel, by decide +kernel, by decide +kernel⟩ (by decide +kernel) (.cons (.open_ (d := 3) (by decide +kernel) (by decide +kernel) (by decide +kernel) ((show inner "(a -> b)" = ("a -> b" : Str) by decide +kernel) ▸ rAB 3)) (.cons (.plain (.inr (.inl (by decide +kernel))) fitA.1) .nil)) fitK
theorem same_mem {l m : List Str} (h : ((l.all fun x => decide (x ∈ m)) && (m.all fun x => decide (x ∈ l))) = true) (x : Str) : x ∈ l ↔ x ∈ m := by
  obtain ⟨a, b⟩ := Bool.and_eq_true_iff.mp h
  exact ⟨fun k => of_decide_eq_true (List.all_eq_true.mp a x k), fun k => of_decide_eq_true (List.all_eq_true.mp b x k)⟩
theorem atomsK {ys : List Str} (h : IsAtoms tK ys) : ys = (["a", "b", "c"] : List Str) :=
  sorted_one _ _ h.2.1 (by decide +kernel) h.1 (by decide +kernel) fun x => (h.2.2.1 x).trans (same_mem (by decide +kernel) x)
theorem partsK {X : List Str} (h : TX tK X) : X = (["(a -> b) -> a -> c", "a", "a -> b"] : List Str) :=
  sorted_one _ _ h.2.1 (by decide +kernel) h.1 (by decide +kernel) fun x => (h.2.2.1 x).trans (same_mem (by decide +kernel) x)
theorem posK {ys : List Str} {n : Nat} (h : IsSet tK.pos n ys) : ys = (["a", "c"] : List Str) :=
  sorted_one _ _ h.2.1 (by decide +kernel) h.1 (by decide +kernel) fun x => (h.2.2.1 x).trans (same_mem (by decide +kernel) x)
theorem negK {ys : List Str} {n : Nat} (h : IsSet tK.neg n ys) : ys = (["a", "b"] : List Str) :=
  sorted_one _ _ h.2.1 (by decide +kernel) h.1 (by decide +kernel) fun x => (h.2.2.1 x).trans (same_mem (by decide +kernel) x)
section
variable {P : Program} {w : World} {K : PySem.W.Frag} {mg : Str → Option Value} {base : Heap} {C_Type : Addr}
theorem ok_law (T : Txt K mg C_Type) (k_Type_read : CmtC P w K mg base C_Type "read" 18 ["cls", "text"] (sp_Type_read K C_Type)) (c__law_dice : Cal P w K mg base "_law_dice" 1 ["_law_script", "_law_spot"] (sp__law_dice K)) (p_Type_text : PrpC P w K mg base C_Type "text" 1 ["self"] (getSp C_Type "_text")) (p_Type_atom : PrpC P w K mg base C_Type "atom" 1 ["self"] (getSp C_Type "_atom")) (p_Type_order : PrpC P w K mg base C_Type "order" 1 ["self"] (getSp C_Type "_order")) (p_Type_atoms : PrpC P w K mg base C_Type "atoms" 1 ["self"] (sp_Type_atoms K C_Type)) (p_Type_positive : PrpC P w K mg base C_Type "positive" 13 ["self"] (sp_Type_positive K C_Type)) (p_Type_negative : PrpC P w K mg base C_Type "negative" 13 ["self"] (sp_Type_negative K C_Type)) (c__law_right : Cal P w K mg base "_law_right" 19 ["_law_dice_here"] (sp__law_right K C_Type)) (p_Type_inputs : PrpC P w K mg base C_Type "inputs" 1 ["self"] (getSp C_Type "_inputs")) (p_Type_parts : PrpC P w K mg base C_Type "parts" 15 ["self"] (sp_Type_parts K C_Type)) (m_Type___len__ : MetC P w K mg base C_Type "__len__" 1 ["self"] (sp_Type___len__ K C_Type)) {f : Addr} {fd : FuncData} (F : Fun K "law" "law" s_law f fd) : FnOkG P w K mg base CX0 20 f fd ["_law_script"] (sp_law K) := by
  have nd := sc_law.nd
  refine F.okG sc_law (fun vs H Q E h => ?_) (fun cdv A outer s H vs Q E hr hG h => ?_)
  · obtain ⟨a, ns, rfl, _⟩ := h
    rfl
  · obtain ⟨a, ns, rfl, hS, hn, q⟩ := h
    refine ⟨_, (pss_cons (ps_for PassesOwn.never rfl (pi_range1 (by rfl) T.b_range (pa_cons (pe_callB (call_max2 rfl) (by rfl) T.b_max (by decide +kernel) (pa_cons pe_int (pa_cons (pe_callB (call_min2 rfl) (by rfl) T.b_min (by decide +kernel) (pa_cons pe_int (pa_cons (pe_callB call_len (by rfl) T.b_len (by decide +kernel) (pa_cons (pv 0) pa_nil)) pa_nil))) pa_nil))) pa_nil)) (pg_name (i := 1) nd rfl (.inl rfl)) (pss_cons (ps_set (i := 2) nd rfl (.inl rfl) (pe_callC c__law_dice (hr.mono (by first | decide | omega)) hG rfl (pa_cons (pv 0) (pa_cons (pv 1) pa_nil))))
      (pss_one (ps_for PassesOwn.never rfl (pi_range1 (by rfl) T.b_range (pa_cons pe_int pa_nil)) (pg_name (i := 3) nd rfl (.inl rfl)) (pss_one (ps_if (pt_not (pt_val (pe_callC c__law_right (hr.mono (by first | decide | omega)) hG rfl (pa_cons (pv 2) pa_nil)))) (pss_one (ps_ret pe_bl)) pss_nil))))))
      (pss_cons (ps_set (i := 4) nd rfl (.inl rfl) (pe_cmethC k_Type_read (hr.mono (by first | decide | omega)) (pe_glob (v := .ref C_Type) rfl T.c_Type rfl) (pa_cons pe_str pa_nil)))
      (pss_cons (ps_set (i := 5) nd rfl (.inl rfl) (pe_lst (pa_cons (pe_propC p_Type_text T.k_Type (hr.mono (by first | decide | omega)) (pe_ix ix_tup (pe_propC p_Type_inputs T.k_Type (hr.mono (by first | decide | omega)) (pv 4)) pe_int (fun _ _ => rfl))) (pa_cons (pe_propC p_Type_atom T.k_Type (hr.mono (by first | decide | omega)) (pv 4)) (pa_cons (pe_propC p_Type_order T.k_Type (hr.mono (by first | decide | omega)) (pv 4)) (pa_cons (pe_callB (call_lenO m_Type___len__ (hr.mono (by first | decide | omega))) (by rfl) T.b_len (by decide +kernel) (pa_cons (pv 4) pa_nil)) (pa_cons (pe_propC p_Type_atoms T.k_Type (hr.mono (by first | decide | omega)) (pv 4)) (pa_cons (pe_lcD (own := [("_law_part", 6)]) (by rfl) nd (pi_tup (pe_propC p_Type_parts T.k_Type (hr.mono (by first | decide | omega)) (pv 4))) (blkOk_by (own := [("_law_part", 6)]) (N := ["_law_script", "_law_spot", "_law_dice_here", "_law_turn", "_law_one", "_law_told", "_law_part"]) (sc := (defScope s_law)) (by decide +kernel)) (fun _ _ _ _ _ => pg_name (i := 6) nd rfl (Or.inl rfl)) (fun _ _ _ _ _ => pts_nil) (fun _ _ _ _ _ => (pe_propC p_Type_text T.k_Type (hr.mono (by first | decide | omega)) (pv 6)))) pa_nil))))))))
      (pss_cons (ps_if (pt_cmpR (op_neD hr.units) (pv 5) (pe_lst (pa_cons pe_str (pa_cons pe_str (pa_cons pe_int (pa_cons pe_int (pa_cons (pe_tup (pa_cons pe_str (pa_cons pe_str (pa_cons pe_str pa_nil)))) (pa_cons (pe_lst (pa_cons pe_str (pa_cons pe_str (pa_cons pe_str pa_nil)))) pa_nil))))))) (nomark _)) (pss_one (ps_ret pe_bl)) pss_nil)
      (pss_one (ps_ret (pe_cmpR (op_eqD hr.units) (pe_lst (pa_cons (pe_propC p_Type_positive T.k_Type (hr.mono (by first | decide | omega)) (pv 4)) (pa_cons (pe_propC p_Type_negative T.k_Type (hr.mono (by first | decide | omega)) (pv 4)) (pa_cons (pe_globE rfl T.g_MAX_PLACES) (pa_cons (pe_globE rfl T.g_MAX_ORDER) pa_nil))))) (pe_lst (pa_cons (pe_tup (pa_cons pe_str (pa_cons pe_str pa_nil))) (pa_cons (pe_tup (pa_cons pe_str (pa_cons pe_str pa_nil))) (pa_cons pe_int (pa_cons pe_int pa_nil))))) (nomark _)))))))), ?_⟩
    obtain ⟨j1, j2⟩ := cells_ok hn _ rfl
    refine cut_for (fun σ' H' => (∃ s1 s2 s3, σ' = [some (.ref a), s1, s2, s3, none, none, none]) ∧ Same H H') (fun N hN => ?_) ?_
    · refine ⟨.ref a, rfl, .ref a, _, rfl, .inl ⟨_, hS, rfl⟩, 8, _, rfl, 1, _, rfl, _, rfl, ?_, ?_, ?_⟩
      · rw [List.length_map]
        omega
      · rw [List.length_map]
        omega
      rw [List.length_map]
      refine for_range (lo := 0) (fun i σ H' => (∃ s1 s2 s3, σ = [some (.ref a), s1, s2, s3, none, none, none]) ∧ Same H H') ?_ (fun i σ H1 hi hP => ?_) (fun σ H1 hP => ?_)
      · exact ⟨⟨_, _, _, rfl⟩, Same.refl H⟩
      · obtain ⟨⟨s1, s2, s3, rfl⟩, sm⟩ := hP
        refine ⟨.ref a, rfl, _, rfl, a, ns, _, rfl, sm.seq hS, by omega, by omega, fun d o hd dd => ?_⟩
        have hdH : H d = none := sm.free hd
        refine ⟨6, rfl, by decide, by decide, for_range (lo := 0) (fun j σ H' => (∃ s1 s3, σ = [some (.ref a), s1, some (.ref d), s3, none, none, none]) ∧ Same H H' ∧ IsDice H' d) ?_ (fun j σ H2 hj hP => ?_) (fun σ H2 hP => ?_)⟩
        · exact ⟨⟨_, _, rfl⟩, sm.mut hdH, dd⟩
        · obtain ⟨⟨s1, s3, rfl⟩, sm2, d2⟩ := hP
          refine ⟨.ref d, rfl, d, rfl, d2, fun H3 e3 d3 => ?_⟩
          have m3 := same_ext sm2 hdH e3
          refine ⟨true, rfl, iteF ?_⟩
          exact ⟨⟨_, _, rfl⟩, m3, d3⟩
        · obtain ⟨⟨s1, s3, rfl⟩, sm2, d2⟩ := hP
          exact ⟨⟨_, _, _, rfl⟩, sm2⟩
      · exact hN _ _ hP
    rintro σ' G1 ⟨⟨s1, s2, s3, rfl⟩, sm⟩
    refine ⟨rfl, _, tK, rfl, rK, xK, fun z G2 z2 hz => ?_⟩
    refine asg_go2 ?_
    dsimp only
    obtain ⟨z', dz, pz, qz, rz, ez, gz, gp, gi, gq⟩ := hz.at
    cases ez
    have gl := gi.len
    obtain ⟨v0, r0, er⟩ : ∃ v r, rz = v :: r := by
      cases rz with
      | nil => cases gl
      | cons v r => exact ⟨v, r, rfl⟩
    obtain ⟨u, eu, hu⟩ := gi.get (i := 0) (v := v0) (by rw [er]; rfl)
    cases eu
    obtain ⟨c, dc, pc, qc, rc, rfl, gc, _⟩ := hu.at
    have p4 : ((tK.places.length : Nat) : Int) = 4 := by rw [plK]; rfl
    have o2 : ((tK.order : Nat) : Int) = 2 := by rw [orK]; rfl
    refine ⟨.ref z, rfl, z, dz, _, rfl, gz, z, dz, _, .ref pz, rfl, gz, rfl, pz, _, 0, .ref c, rfl, rfl, SqT.of gp, by rw [er]; show atI _ ((0 : Nat) : Int) = _; exact atI_nat rfl, c, dc, _, rfl, gc, c, dc, _, .str tAB.text, rfl, gc, rfl, ?_⟩
    refine ⟨.ref z, rfl, z, dz, _, rfl, gz, z, dz, _, .str tK.atom, rfl, gz, rfl, .ref z, rfl, z, dz, _, rfl, gz, z, dz, _, .int (tK.order : Nat), rfl, gz, rfl, ?_⟩
    refine ⟨.ref z, rfl, z, dz, _, rfl, gz, .ref z, tK, rfl, hz, fitK, _, rfl, by rw [p4]; decide, ?_⟩
    refine ⟨.ref z, rfl, z, dz, _, rfl, gz, .ref z, tK, rfl, hz, fitK, fun pA ysA H2 t2 hpA isA => ?_⟩
    have eA := atomsK isA
    subst eA
    refine ⟨.ref z, rfl, z, dz, _, rfl, t2 _ _ gz, .ref z, tK, rfl, IsT.same t2 _ _ hz, by rw [orK]; decide, fitK, fun pp rsp us H3 t3 hpp hus is => ⟨pp, rfl, ⟨_, SqT.of hpp⟩, fun D3 hD3 => ?_⟩⟩
    have l1 := hus.len
    have l2 := is.few
    have l3 : tK.places.length = 4 := by rw [plK]; rfl
    refine lc_tup (xs := rsp) (fun i H' => H' D3 = some (.lst (((us.take i).map Ty.text).map V.str)) ∧ Same H3 H') ⟨by rw [upd_same, List.take_zero]; rfl, (Same.refl _).mut hD3⟩ (fun i H' _ hP => SqT.of (hP.2 _ _ hpp)) (fun i y H' hy hP => ?_) (fun H4 hP => ?_)
    · obtain ⟨hE, sm⟩ := hP
      obtain ⟨u, eu, hu⟩ := hus.get hy
      obtain ⟨c, dxc, pc, qc, rsc, rfl, hc, _⟩ := (IsT.same sm u y hu).at
      have io := lt_of_get hy
      refine ⟨rfl, tyes ?_⟩
      refine ⟨.ref c, rfl, c, dxc, _, rfl, hc, c, dxc, _, .str u.text, rfl, hc, rfl, _, hE, lt_line' ?_, ?_, sm.mut hD3⟩
      · rw [List.length_map, List.length_map, List.length_take]
        omega
      · rw [upd_same, take_next eu, List.map_append, List.map_append]
        rfl
    obtain ⟨hT3, t4⟩ := hP
    rw [l1, List.take_length, partsK is.tx] at hT3
    refine ⟨by show 6 ≤ sizeLine; decide, fun LT hLT => ?_⟩
    refine asg_go2 ?_
    dsimp only
    have t24 := (t3.trans t4).new (o := .lst [.str tAB.text, .str tK.atom, .int (tK.order : Nat), .int (tK.places.length : Nat), .ref pA, .ref D3]) hLT
    have t0 := (z2.trans t2).trans t24
    replace hpA := t24 _ _ hpA
    replace hT3 := ((Same.refl H4).new (o := .lst [.str tAB.text, .str tK.atom, .int (tK.order : Nat), .int (tK.places.length : Nat), .ref pA, .ref D3]) hLT) _ _ hT3
    have hLTv : upd H4 LT (.lst [.str tAB.text, .str tK.atom, .int (tK.order : Nat), .int (tK.places.length : Nat), .ref pA, .ref D3]) LT = _ := upd_same
    replace hz := IsT.same (t2.trans t24) _ _ hz
    replace gz := (t2.trans t24) _ _ gz
    generalize upd H4 LT (.lst [.str tAB.text, .str tK.atom, .int (tK.order : Nat), .int (tK.places.length : Nat), .ref pA, .ref D3]) = H5 at t0 hpA hT3 hLTv hz gz ⊢
    clear t24 hLT t4 t3 t2
    refine ⟨.ref LT, rfl, by show 3 ≤ sizeLine; decide, fun tp htp => ⟨by show 3 ≤ sizeLine; decide, fun lp hlp => ⟨by show 6 ≤ sizeLine; decide, fun LU hLU => ?_⟩⟩⟩
    have u2 := ((Same.refl (upd H5 tp (.tup [.str "a", .str "b", .str "c"]))).new (o := .lst [.str "(a -> b) -> a -> c", .str "a", .str "a -> b"]) hlp).new (o := .lst [.str "a -> b", .str "c", .int 2, .int 4, .ref tp, .ref lp]) hLU
    have u1 := (Same.refl (upd (upd H5 tp (.tup [.str "a", .str "b", .str "c"])) lp (.lst [.str "(a -> b) -> a -> c", .str "a", .str "a -> b"]))).new (o := .lst [.str "a -> b", .str "c", .int 2, .int 4, .ref tp, .ref lp]) hLU
    have u0 := ((Same.refl H5).new (o := .tup [.str "a", .str "b", .str "c"]) htp).trans u2
    refine ⟨(.list [.str "a -> b", .str "c", .int 2, .int 4, .tuple (((["a", "b", "c"] : List Str)).map PyData.str), .list ((["(a -> b) -> a -> c", "a", "a -> b"] : List Str).map PyData.str)]), (.list [.str "a -> b", .str "c", .int 2, .int 4, .tuple (((["a", "b", "c"] : List Str)).map PyData.str), .list ((["(a -> b) -> a -> c", "a", "a -> b"] : List Str).map PyData.str)]), .lst (SqL.of (u0 _ _ hLTv)) (.cons (by rw [xAB]; exact .str _) (.cons (.str _) (.cons (by rw [o2]; exact .int _) (.cons (by rw [p4]; exact .int _) (.cons (.tup (SqT.of (u0 _ _ hpA)) (dp_textsN _)) (.cons (.lst (SqL.of (u0 _ _ hT3)) (dp_textsN _)) .nil)))))), .lst (SqL.of upd_same) (.cons (.str _) (.cons (.str _) (.cons (.int _) (.cons (.int _) (.cons (.tup (SqT.of (u2 _ _ upd_same)) (dp_textsN ["a", "b", "c"])) (.cons (.lst (SqL.of (u1 _ _ upd_same)) (dp_textsN ["(a -> b) -> a -> c", "a", "a -> b"])) .nil)))))), by decide +kernel, by decide +kernel, false, congrArg V.bl (by decide +kernel), iteF ?_⟩
    refine nx_go ?_
    dsimp only
    replace hz := IsT.same u0 _ _ hz
    replace gz := u0 _ _ gz
    replace t0 := t0.trans u0
    refine ⟨.ref z, rfl, z, dz, _, rfl, gz, .ref z, tK, rfl, hz, by rw [orK]; decide, fitK, fun pP ysP Ha sa hpP isP => ⟨.ref z, rfl, z, dz, _, rfl, sa _ _ gz, .ref z, tK, rfl, IsT.same sa _ _ hz, by rw [orK]; decide, fitK, fun pN ysN Hb sb hpN isN => ⟨by show 4 ≤ sizeLine; decide, fun La hLa => ?_⟩⟩⟩
    have eP := posK isP
    have eN := negK isN
    subst eP eN
    refine ⟨by show 2 ≤ sizeLine; decide, fun q1 hq1 => ⟨by show 2 ≤ sizeLine; decide, fun q2 hq2 => ⟨by show 4 ≤ sizeLine; decide, fun Lb hLb => ?_⟩⟩⟩
    have w2 := (Same.refl (upd (upd (upd Hb La (.lst [.ref pP, .ref pN, .int 15, .int 4])) q1 (.tup [.str "a", .str "c"])) q2 (.tup [.str "a", .str "b"]))).new (o := .lst [.ref q1, .ref q2, .int 15, .int 4]) hLb
    have w1 := ((Same.refl (upd (upd Hb La (.lst [.ref pP, .ref pN, .int 15, .int 4])) q1 (.tup [.str "a", .str "c"]))).new (o := .tup [.str "a", .str "b"]) hq2).trans w2
    have w0 := ((Same.refl (upd Hb La (.lst [.ref pP, .ref pN, .int 15, .int 4]))).new (o := .tup [.str "a", .str "c"]) hq1).trans w1
    have wb := ((Same.refl Hb).new (o := .lst [.ref pP, .ref pN, .int 15, .int 4]) hLa).trans w0
    refine ⟨(.list [.tuple ((["a", "c"] : List Str).map PyData.str), .tuple ((["a", "b"] : List Str).map PyData.str), .int 15, .int 4]), (.list [.tuple ((["a", "c"] : List Str).map PyData.str), .tuple ((["a", "b"] : List Str).map PyData.str), .int 15, .int 4]), .lst (SqL.of (w0 _ _ upd_same)) (.cons (.tup (SqT.of (wb _ _ (sb _ _ hpP))) (dp_textsN _)) (.cons (.tup (SqT.of (wb _ _ hpN)) (dp_textsN _)) (.cons (.int _) (.cons (.int _) .nil)))), .lst (SqL.of upd_same) (.cons (.tup (SqT.of (w1 _ _ upd_same)) (dp_textsN ["a", "c"])) (.cons (.tup (SqT.of (w2 _ _ upd_same)) (dp_textsN ["a", "b"])) (.cons (.int _) (.cons (.int _) .nil)))), by decide +kernel, by decide +kernel, ?_⟩
    rw [show PyData.eqv (.list [.tuple ((["a", "c"] : List Str).map PyData.str), .tuple ((["a", "b"] : List Str).map PyData.str), .int 15, .int 4]) (.list [.tuple ((["a", "c"] : List Str).map PyData.str), .tuple ((["a", "b"] : List Str).map PyData.str), .int 15, .int 4]) = true from by decide +kernel]
    exact q _
end


end My
namespace My
open PySem PySem.Spec PyProof.Rows L2 TL
theorem odd_of {K : PySem.W.Frag} {C : Addr} {T : String} (hd : PySem.W.hasDictIn K C = true) (ty : PySem.W.typeIn K (.ref C) = some (.type "type")) (sb : PySem.W.subIn K (.type T) (.ref C) = some false) : PySem.W.kitOne K (.type T) (.ref C) = some false := by
  have h : (PySem.W.clsIn K C).isSome = true := by
    unfold PySem.W.hasDictIn at hd
    cases e : PySem.W.clsIn K C with
    | none => rw [e] at hd; cases hd
    | some c => rfl
  unfold PySem.W.kitOne
  have e : (Value.type T == Value.ref C) = false := by first | rfl | (apply Bool.eq_false_iff.mpr; intro z; exact Value.noConfusion (eq_of_beq z)) | simp
  rw [e]
  show (if ((PySem.W.clsIn K C).isSome && PySem.W.typeIn K (.ref C) == some (.type "type")) = true then PySem.W.subIn K (.type T) (.ref C) else none) = some false
  rw [if_pos (by rw [h, ty]; decide +kernel)]
  exact sb

theorem all_mk {l : PySem.W.OpenLaw} {w : World} {K : PySem.W.Frag} {h : Heap} {mg : Str → Option Value} {fa : Addr} (X : K.In h) (G : h.Ns mainGlobals mg) (hfa : mg "law" = some (.ref fa))
     {C_Type : Addr} {f__pieces : Addr} {od__pieces an__pieces : Option Addr} {sl__pieces : Array (Option Value)} {oc__pieces kV__pieces dc__pieces pm__pieces cd__pieces ct__pieces : Value} {f__is_tuple_of_types : Addr} {od__is_tuple_of_types an__is_tuple_of_types : Option Addr} {sl__is_tuple_of_types : Array (Option Value)} {oc__is_tuple_of_types kV__is_tuple_of_types dc__is_tuple_of_types pm__is_tuple_of_types cd__is_tuple_of_types ct__is_tuple_of_types : Value} {f_is_word : Addr} {od_is_word an_is_word : Option Addr} {sl_is_word : Array (Option Value)} {oc_is_word kV_is_word dc_is_word pm_is_word cd_is_word ct_is_word : Value} {f_Type_order : Addr} {od_Type_order an_Type_order : Option Addr} {sl_Type_order : Array (Option Value)} {oc_Type_order kV_Type_order dc_Type_order pm_Type_order cd_Type_order ct_Type_order : Value} {p_Type_order : Addr} {rs_Type_order : List Value} {f_Type_inputs : Addr} {od_Type_inputs an_Type_inputs : Option Addr} {sl_Type_inputs : Array (Option Value)} {oc_Type_inputs kV_Type_inputs dc_Type_inputs pm_Type_inputs cd_Type_inputs ct_Type_inputs : Value} {p_Type_inputs : Addr} {rs_Type_inputs : List Value} {f_Type_text : Addr} {od_Type_text an_Type_text : Option Addr} {sl_Type_text : Array (Option Value)} {oc_Type_text kV_Type_text dc_Type_text pm_Type_text cd_Type_text ct_Type_text : Value} {p_Type_text : Addr} {rs_Type_text : List Value} {f__text_inside : Addr} {od__text_inside an__text_inside : Option Addr} {sl__text_inside : Array (Option Value)} {oc__text_inside kV__text_inside dc__text_inside pm__text_inside cd__text_inside ct__text_inside : Value} {f_Type___init__ : Addr} {od_Type___init__ an_Type___init__ : Option Addr} {sl_Type___init__ : Array (Option Value)} {oc_Type___init__ kV_Type___init__ dc_Type___init__ pm_Type___init__ cd_Type___init__ ct_Type___init__ : Value} {f_Type_plain : Addr} {od_Type_plain an_Type_plain : Option Addr} {sl_Type_plain : Array (Option Value)} {oc_Type_plain kV_Type_plain dc_Type_plain pm_Type_plain cd_Type_plain ct_Type_plain : Value} {p_Type_plain : Addr} {rs_Type_plain : List Value} {f__read_freely : Addr} {od__read_freely an__read_freely : Option Addr} {sl__read_freely : Array (Option Value)} {oc__read_freely kV__read_freely dc__read_freely pm__read_freely cd__read_freely ct__read_freely : Value} {f__read_piece : Addr} {od__read_piece an__read_piece : Option Addr} {sl__read_piece : Array (Option Value)} {oc__read_piece kV__read_piece dc__read_piece pm__read_piece cd__read_piece ct__read_piece : Value} {f_Type_read : Addr} {od_Type_read an_Type_read : Option Addr} {sl_Type_read : Array (Option Value)} {oc_Type_read kV_Type_read dc_Type_read pm_Type_read cd_Type_read ct_Type_read : Value} {p_Type_read : Addr} {rs_Type_read : List Value} {f__law_dice : Addr} {od__law_dice an__law_dice : Option Addr} {sl__law_dice : Array (Option Value)} {oc__law_dice kV__law_dice dc__law_dice pm__law_dice cd__law_dice ct__law_dice : Value} {f_Type_atom : Addr} {od_Type_atom an_Type_atom : Option Addr} {sl_Type_atom : Array (Option Value)} {oc_Type_atom kV_Type_atom dc_Type_atom pm_Type_atom cd_Type_atom ct_Type_atom : Value} {p_Type_atom : Addr} {rs_Type_atom : List Value} {f_Type_atoms : Addr} {od_Type_atoms an_Type_atoms : Option Addr} {sl_Type_atoms : Array (Option Value)} {oc_Type_atoms kV_Type_atoms dc_Type_atoms pm_Type_atoms cd_Type_atoms ct_Type_atoms : Value} {p_Type_atoms : Addr} {rs_Type_atoms : List Value} {f_Type_positive : Addr} {od_Type_positive an_Type_positive : Option Addr} {sl_Type_positive : Array (Option Value)} {oc_Type_positive kV_Type_positive dc_Type_positive pm_Type_positive cd_Type_positive ct_Type_positive : Value} {p_Type_positive : Addr} {rs_Type_positive : List Value} {f_Type_negative : Addr} {od_Type_negative an_Type_negative : Option Addr} {sl_Type_negative : Array (Option Value)} {oc_Type_negative kV_Type_negative dc_Type_negative pm_Type_negative cd_Type_negative ct_Type_negative : Value} {p_Type_negative : Addr} {rs_Type_negative : List Value} {f__law_roll : Addr} {od__law_roll an__law_roll : Option Addr} {sl__law_roll : Array (Option Value)} {oc__law_roll kV__law_roll dc__law_roll pm__law_roll cd__law_roll ct__law_roll : Value} {f__law_pick : Addr} {od__law_pick an__law_pick : Option Addr} {sl__law_pick : Array (Option Value)} {oc__law_pick kV__law_pick dc__law_pick pm__law_pick cd__law_pick ct__law_pick : Value} {f__law_atoms_of : Addr} {od__law_atoms_of an__law_atoms_of : Option Addr} {sl__law_atoms_of : Array (Option Value)} {oc__law_atoms_of kV__law_atoms_of dc__law_atoms_of pm__law_atoms_of cd__law_atoms_of ct__law_atoms_of : Value} {f__law_kind : Addr} {od__law_kind an__law_kind : Option Addr} {sl__law_kind : Array (Option Value)} {oc__law_kind kV__law_kind dc__law_kind pm__law_kind cd__law_kind ct__law_kind : Value} {f__law_made_kind : Addr} {od__law_made_kind an__law_made_kind : Option Addr} {sl__law_made_kind : Array (Option Value)} {oc__law_made_kind kV__law_made_kind dc__law_made_kind pm__law_made_kind cd__law_made_kind ct__law_made_kind : Value} {f__law_text : Addr} {od__law_text an__law_text : Option Addr} {sl__law_text : Array (Option Value)} {oc__law_text kV__law_text dc__law_text pm__law_text cd__law_text ct__law_text : Value} {f__law_order : Addr} {od__law_order an__law_order : Option Addr} {sl__law_order : Array (Option Value)} {oc__law_order kV__law_order dc__law_order pm__law_order cd__law_order ct__law_order : Value} {f__law_parts : Addr} {od__law_parts an__law_parts : Option Addr} {sl__law_parts : Array (Option Value)} {oc__law_parts kV__law_parts dc__law_parts pm__law_parts cd__law_parts ct__law_parts : Value} {f_Type_parts : Addr} {od_Type_parts an_Type_parts : Option Addr} {sl_Type_parts : Array (Option Value)} {oc_Type_parts kV_Type_parts dc_Type_parts pm_Type_parts cd_Type_parts ct_Type_parts : Value} {p_Type_parts : Addr} {rs_Type_parts : List Value} {f__law_signed : Addr} {od__law_signed an__law_signed : Option Addr} {sl__law_signed : Array (Option Value)} {oc__law_signed kV__law_signed dc__law_signed pm__law_signed cd__law_signed ct__law_signed : Value} {f_Type___contains__ : Addr} {od_Type___contains__ an_Type___contains__ : Option Addr} {sl_Type___contains__ : Array (Option Value)} {oc_Type___contains__ kV_Type___contains__ dc_Type___contains__ pm_Type___contains__ cd_Type___contains__ ct_Type___contains__ : Value} {f_Type___iter__ : Addr} {od_Type___iter__ an_Type___iter__ : Option Addr} {sl_Type___iter__ : Array (Option Value)} {oc_Type___iter__ kV_Type___iter__ dc_Type___iter__ pm_Type___iter__ cd_Type___iter__ ct_Type___iter__ : Value} {f_Type___len__ : Addr} {od_Type___len__ an_Type___len__ : Option Addr} {sl_Type___len__ : Array (Option Value)} {oc_Type___len__ kV_Type___len__ dc_Type___len__ pm_Type___len__ cd_Type___len__ ct_Type___len__ : Value} {f_is_integer : Addr} {od_is_integer an_is_integer : Option Addr} {sl_is_integer : Array (Option Value)} {oc_is_integer kV_is_integer dc_is_integer pm_is_integer cd_is_integer ct_is_integer : Value} {f_Type___getitem__ : Addr} {od_Type___getitem__ an_Type___getitem__ : Option Addr} {sl_Type___getitem__ : Array (Option Value)} {oc_Type___getitem__ kV_Type___getitem__ dc_Type___getitem__ pm_Type___getitem__ cd_Type___getitem__ ct_Type___getitem__ : Value} {f_Type___str__ : Addr} {od_Type___str__ an_Type___str__ : Option Addr} {sl_Type___str__ : Array (Option Value)} {oc_Type___str__ kV_Type___str__ dc_Type___str__ pm_Type___str__ cd_Type___str__ ct_Type___str__ : Value} {f__law_told_right : Addr} {od__law_told_right an__law_told_right : Option Addr} {sl__law_told_right : Array (Option Value)} {oc__law_told_right kV__law_told_right dc__law_told_right pm__law_told_right cd__law_told_right ct__law_told_right : Value} {f_Type___eq__ : Addr} {od_Type___eq__ an_Type___eq__ : Option Addr} {sl_Type___eq__ : Array (Option Value)} {oc_Type___eq__ kV_Type___eq__ dc_Type___eq__ pm_Type___eq__ cd_Type___eq__ ct_Type___eq__ : Value} {f__law_right : Addr} {od__law_right an__law_right : Option Addr} {sl__law_right : Array (Option Value)} {oc__law_right kV__law_right dc__law_right pm__law_right cd__law_right ct__law_right : Value} {f_law : Addr} {od_law an_law : Option Addr} {sl_law : Array (Option Value)} {oc_law kV_law dc_law pm_law cd_law ct_law : Value} {t_MAX_LETTERS : Tok} {t_MAX_PLACES : Tok} {t_MAX_ORDER : Tok} {t__ARROW : Tok}
    (aC_Type : PySem.W.nsIn K mainGlobals "Type" = some (some (.ref C_Type)))
    (pg_Type : PySem.W.plainGet K C_Type Str.empty = true)
    (hd_Type : PySem.W.hasDictIn K C_Type = true)
    (po_Type : PySem.W.plainOver K C_Type = true)
    (sa_Type : PySem.W.findIn K (.ref C_Type) "__setattr__" = some (some (.builtin "object.__setattr__")))
    (mk_Type : PySem.W.makesIn K C_Type = true)
    (kc_Type : PySem.W.keepIn K (.ref C_Type) = true)
    (n_inputs_Type : PySem.W.findIn K (.ref C_Type) "_inputs" = some none)
    (n_atom_Type : PySem.W.findIn K (.ref C_Type) "_atom" = some none)
    (n_places_Type : PySem.W.findIn K (.ref C_Type) "_places" = some none)
    (n_order_Type : PySem.W.findIn K (.ref C_Type) "_order" = some none)
    (n_text_Type : PySem.W.findIn K (.ref C_Type) "_text" = some none)
    (fst_Type : PySem.W.selfFirst K C_Type = true)
    (nfs_Type : PySem.W.notFirst K C_Type (.ref C_Type) = true)
    (tyt_Type : PySem.W.typeIn K (.ref C_Type) = some (.type "type"))
    (od_NoneType_Type : PySem.W.subIn K (.type "NoneType") (.ref C_Type) = some false)
    (nf_NoneType_Type : PySem.W.notFirst K C_Type (.type "NoneType") = true)
    (od_int_Type : PySem.W.subIn K (.type "int") (.ref C_Type) = some false)
    (nf_int_Type : PySem.W.notFirst K C_Type (.type "int") = true)
    (od_str_Type : PySem.W.subIn K (.type "str") (.ref C_Type) = some false)
    (nf_str_Type : PySem.W.notFirst K C_Type (.type "str") = true)
    (od_tuple_Type : PySem.W.subIn K (.type "tuple") (.ref C_Type) = some false)
    (nf_tuple_Type : PySem.W.notFirst K C_Type (.type "tuple") = true)
    (od_list_Type : PySem.W.subIn K (.type "list") (.ref C_Type) = some false)
    (nf_list_Type : PySem.W.notFirst K C_Type (.type "list") = true)
    (od_dict_Type : PySem.W.subIn K (.type "dict") (.ref C_Type) = some false)
    (nf_dict_Type : PySem.W.notFirst K C_Type (.type "dict") = true)
    (ne_Type : PySem.W.findIn K (.ref C_Type) "__ne__" = some (some (.builtin "object.__ne__")))
    (un_Type : PySem.W.subIn K (.ref C_Type) (.type "object") = some true)
    (cl1_Type : PySem.W.findIn K (.ref C_Type) "__class__" = some (some (.builtin "object.__class__")))
    (cl2_Type : PySem.W.specialIn K (.builtin "object.__class__") "__get__" = some (some (.builtin "getset_descriptor.__get__")))
    (cl3_Type : PySem.W.takesIn K (.builtin "object.__class__") = some true)
    (cl4_Type : PySem.W.mroIn K C_Type (.type "object") = some true)
    (rd_Type : PySem.W.readsIn K C_Type (.type "type") = true)
    (ga_Type : PySem.W.specialIn K (.ref C_Type) "__getattribute__" = some (some (.builtin "type.__getattribute__")))
    (a__pieces : PySem.W.nsIn K mainGlobals "_pieces" = some (some (.ref f__pieces)))
    (l__pieces : K.lookup f__pieces = some ⟨oc__pieces, od__pieces, .func (PySem.W.fnOf "_pieces" "_pieces" (defArgs s__pieces) (defBody s__pieces) (defScope s__pieces) .none kV__pieces dc__pieces pm__pieces an__pieces cd__pieces ct__pieces), sl__pieces⟩)
    (c__pieces : PySem.W.codeIn K cd__pieces "_pieces" = true)
    (k__pieces : PySem.W.keepIn K (.ref f__pieces) = true)
    (a__is_tuple_of_types : PySem.W.nsIn K mainGlobals "_is_tuple_of_types" = some (some (.ref f__is_tuple_of_types)))
    (l__is_tuple_of_types : K.lookup f__is_tuple_of_types = some ⟨oc__is_tuple_of_types, od__is_tuple_of_types, .func (PySem.W.fnOf "_is_tuple_of_types" "_is_tuple_of_types" (defArgs s__is_tuple_of_types) (defBody s__is_tuple_of_types) (defScope s__is_tuple_of_types) .none kV__is_tuple_of_types dc__is_tuple_of_types pm__is_tuple_of_types an__is_tuple_of_types cd__is_tuple_of_types ct__is_tuple_of_types), sl__is_tuple_of_types⟩)
    (c__is_tuple_of_types : PySem.W.codeIn K cd__is_tuple_of_types "_is_tuple_of_types" = true)
    (k__is_tuple_of_types : PySem.W.keepIn K (.ref f__is_tuple_of_types) = true)
    (a_is_word : PySem.W.nsIn K mainGlobals "is_word" = some (some (.ref f_is_word)))
    (l_is_word : K.lookup f_is_word = some ⟨oc_is_word, od_is_word, .func (PySem.W.fnOf "is_word" "is_word" (defArgs s_is_word) (defBody s_is_word) (defScope s_is_word) .none kV_is_word dc_is_word pm_is_word an_is_word cd_is_word ct_is_word), sl_is_word⟩)
    (c_is_word : PySem.W.codeIn K cd_is_word "is_word" = true)
    (k_is_word : PySem.W.keepIn K (.ref f_is_word) = true)
    (a_Type_order : PySem.W.findIn K (.ref C_Type) "order" = some (some (.ref p_Type_order)))
    (g_Type_order : PySem.W.specialIn K (.ref p_Type_order) "__get__" = some (some (.builtin "property.__get__")))
    (t_Type_order : PySem.W.takesIn K (.ref p_Type_order) = some true)
    (r_Type_order : PySem.W.recIn K p_Type_order "property" = some (.ref f_Type_order :: rs_Type_order))
    (l_Type_order : K.lookup f_Type_order = some ⟨oc_Type_order, od_Type_order, .func (PySem.W.fnOf "order" "Type.order" (defArgs s_Type_order) (defBody s_Type_order) (defScope s_Type_order) .none kV_Type_order dc_Type_order pm_Type_order an_Type_order cd_Type_order ct_Type_order), sl_Type_order⟩)
    (c_Type_order : PySem.W.codeIn K cd_Type_order "Type.order" = true)
    (k_Type_order : PySem.W.keepIn K (.ref f_Type_order) = true)
    (a_Type_inputs : PySem.W.findIn K (.ref C_Type) "inputs" = some (some (.ref p_Type_inputs)))
    (g_Type_inputs : PySem.W.specialIn K (.ref p_Type_inputs) "__get__" = some (some (.builtin "property.__get__")))
    (t_Type_inputs : PySem.W.takesIn K (.ref p_Type_inputs) = some true)
    (r_Type_inputs : PySem.W.recIn K p_Type_inputs "property" = some (.ref f_Type_inputs :: rs_Type_inputs))
    (l_Type_inputs : K.lookup f_Type_inputs = some ⟨oc_Type_inputs, od_Type_inputs, .func (PySem.W.fnOf "inputs" "Type.inputs" (defArgs s_Type_inputs) (defBody s_Type_inputs) (defScope s_Type_inputs) .none kV_Type_inputs dc_Type_inputs pm_Type_inputs an_Type_inputs cd_Type_inputs ct_Type_inputs), sl_Type_inputs⟩)
    (c_Type_inputs : PySem.W.codeIn K cd_Type_inputs "Type.inputs" = true)
    (k_Type_inputs : PySem.W.keepIn K (.ref f_Type_inputs) = true)
    (a_Type_text : PySem.W.findIn K (.ref C_Type) "text" = some (some (.ref p_Type_text)))
    (g_Type_text : PySem.W.specialIn K (.ref p_Type_text) "__get__" = some (some (.builtin "property.__get__")))
    (t_Type_text : PySem.W.takesIn K (.ref p_Type_text) = some true)
    (r_Type_text : PySem.W.recIn K p_Type_text "property" = some (.ref f_Type_text :: rs_Type_text))
    (l_Type_text : K.lookup f_Type_text = some ⟨oc_Type_text, od_Type_text, .func (PySem.W.fnOf "text" "Type.text" (defArgs s_Type_text) (defBody s_Type_text) (defScope s_Type_text) .none kV_Type_text dc_Type_text pm_Type_text an_Type_text cd_Type_text ct_Type_text), sl_Type_text⟩)
    (c_Type_text : PySem.W.codeIn K cd_Type_text "Type.text" = true)
    (k_Type_text : PySem.W.keepIn K (.ref f_Type_text) = true)
    (a__text_inside : PySem.W.nsIn K mainGlobals "_text_inside" = some (some (.ref f__text_inside)))
    (l__text_inside : K.lookup f__text_inside = some ⟨oc__text_inside, od__text_inside, .func (PySem.W.fnOf "_text_inside" "_text_inside" (defArgs s__text_inside) (defBody s__text_inside) (defScope s__text_inside) .none kV__text_inside dc__text_inside pm__text_inside an__text_inside cd__text_inside ct__text_inside), sl__text_inside⟩)
    (c__text_inside : PySem.W.codeIn K cd__text_inside "_text_inside" = true)
    (k__text_inside : PySem.W.keepIn K (.ref f__text_inside) = true)
    (a_Type___init__ : PySem.W.findIn K (.ref C_Type) "__init__" = some (some (.ref f_Type___init__)))
    (i_Type___init__ : PySem.W.isFn K (.ref f_Type___init__) = true)
    (l_Type___init__ : K.lookup f_Type___init__ = some ⟨oc_Type___init__, od_Type___init__, .func (PySem.W.fnOf "__init__" "Type.__init__" (defArgs s_Type___init__) (defBody s_Type___init__) (defScope s_Type___init__) .none kV_Type___init__ dc_Type___init__ pm_Type___init__ an_Type___init__ cd_Type___init__ ct_Type___init__), sl_Type___init__⟩)
    (c_Type___init__ : PySem.W.codeIn K cd_Type___init__ "Type.__init__" = true)
    (k_Type___init__ : PySem.W.keepIn K (.ref f_Type___init__) = true)
    (a_Type_plain : PySem.W.findCls K (.ref C_Type) (.type "type") "plain" = some (.get (.builtin "classmethod.__get__") (.ref p_Type_plain) .none (.ref C_Type)))
    (r_Type_plain : PySem.W.recIn K p_Type_plain "classmethod" = some (.ref f_Type_plain :: rs_Type_plain))
    (fi_Type_plain : PySem.W.fnIn K f_Type_plain = true)
    (l_Type_plain : K.lookup f_Type_plain = some ⟨oc_Type_plain, od_Type_plain, .func (PySem.W.fnOf "plain" "Type.plain" (defArgs s_Type_plain) (defBody s_Type_plain) (defScope s_Type_plain) .none kV_Type_plain dc_Type_plain pm_Type_plain an_Type_plain cd_Type_plain ct_Type_plain), sl_Type_plain⟩)
    (c_Type_plain : PySem.W.codeIn K cd_Type_plain "Type.plain" = true)
    (k_Type_plain : PySem.W.keepIn K (.ref f_Type_plain) = true)
    (a__read_freely : PySem.W.nsIn K mainGlobals "_read_freely" = some (some (.ref f__read_freely)))
    (l__read_freely : K.lookup f__read_freely = some ⟨oc__read_freely, od__read_freely, .func (PySem.W.fnOf "_read_freely" "_read_freely" (defArgs s__read_freely) (defBody s__read_freely) (defScope s__read_freely) .none kV__read_freely dc__read_freely pm__read_freely an__read_freely cd__read_freely ct__read_freely), sl__read_freely⟩)
    (c__read_freely : PySem.W.codeIn K cd__read_freely "_read_freely" = true)
    (k__read_freely : PySem.W.keepIn K (.ref f__read_freely) = true)
    (a__read_piece : PySem.W.nsIn K mainGlobals "_read_piece" = some (some (.ref f__read_piece)))
    (l__read_piece : K.lookup f__read_piece = some ⟨oc__read_piece, od__read_piece, .func (PySem.W.fnOf "_read_piece" "_read_piece" (defArgs s__read_piece) (defBody s__read_piece) (defScope s__read_piece) .none kV__read_piece dc__read_piece pm__read_piece an__read_piece cd__read_piece ct__read_piece), sl__read_piece⟩)
    (c__read_piece : PySem.W.codeIn K cd__read_piece "_read_piece" = true)
    (k__read_piece : PySem.W.keepIn K (.ref f__read_piece) = true)
    (a_Type_read : PySem.W.findCls K (.ref C_Type) (.type "type") "read" = some (.get (.builtin "classmethod.__get__") (.ref p_Type_read) .none (.ref C_Type)))
    (r_Type_read : PySem.W.recIn K p_Type_read "classmethod" = some (.ref f_Type_read :: rs_Type_read))
    (fi_Type_read : PySem.W.fnIn K f_Type_read = true)
    (l_Type_read : K.lookup f_Type_read = some ⟨oc_Type_read, od_Type_read, .func (PySem.W.fnOf "read" "Type.read" (defArgs s_Type_read) (defBody s_Type_read) (defScope s_Type_read) .none kV_Type_read dc_Type_read pm_Type_read an_Type_read cd_Type_read ct_Type_read), sl_Type_read⟩)
    (c_Type_read : PySem.W.codeIn K cd_Type_read "Type.read" = true)
    (k_Type_read : PySem.W.keepIn K (.ref f_Type_read) = true)
    (a__law_dice : PySem.W.nsIn K mainGlobals "_law_dice" = some (some (.ref f__law_dice)))
    (l__law_dice : K.lookup f__law_dice = some ⟨oc__law_dice, od__law_dice, .func (PySem.W.fnOf "_law_dice" "_law_dice" (defArgs s__law_dice) (defBody s__law_dice) (defScope s__law_dice) .none kV__law_dice dc__law_dice pm__law_dice an__law_dice cd__law_dice ct__law_dice), sl__law_dice⟩)
    (c__law_dice : PySem.W.codeIn K cd__law_dice "_law_dice" = true)
    (k__law_dice : PySem.W.keepIn K (.ref f__law_dice) = true)
    (a_Type_atom : PySem.W.findIn K (.ref C_Type) "atom" = some (some (.ref p_Type_atom)))
    (g_Type_atom : PySem.W.specialIn K (.ref p_Type_atom) "__get__" = some (some (.builtin "property.__get__")))
    (t_Type_atom : PySem.W.takesIn K (.ref p_Type_atom) = some true)
    (r_Type_atom : PySem.W.recIn K p_Type_atom "property" = some (.ref f_Type_atom :: rs_Type_atom))
    (l_Type_atom : K.lookup f_Type_atom = some ⟨oc_Type_atom, od_Type_atom, .func (PySem.W.fnOf "atom" "Type.atom" (defArgs s_Type_atom) (defBody s_Type_atom) (defScope s_Type_atom) .none kV_Type_atom dc_Type_atom pm_Type_atom an_Type_atom cd_Type_atom ct_Type_atom), sl_Type_atom⟩)
    (c_Type_atom : PySem.W.codeIn K cd_Type_atom "Type.atom" = true)
    (k_Type_atom : PySem.W.keepIn K (.ref f_Type_atom) = true)
    (a_Type_atoms : PySem.W.findIn K (.ref C_Type) "atoms" = some (some (.ref p_Type_atoms)))
    (g_Type_atoms : PySem.W.specialIn K (.ref p_Type_atoms) "__get__" = some (some (.builtin "property.__get__")))
    (t_Type_atoms : PySem.W.takesIn K (.ref p_Type_atoms) = some true)
    (r_Type_atoms : PySem.W.recIn K p_Type_atoms "property" = some (.ref f_Type_atoms :: rs_Type_atoms))
    (l_Type_atoms : K.lookup f_Type_atoms = some ⟨oc_Type_atoms, od_Type_atoms, .func (PySem.W.fnOf "atoms" "Type.atoms" (defArgs s_Type_atoms) (defBody s_Type_atoms) (defScope s_Type_atoms) .none kV_Type_atoms dc_Type_atoms pm_Type_atoms an_Type_atoms cd_Type_atoms ct_Type_atoms), sl_Type_atoms⟩)
    (c_Type_atoms : PySem.W.codeIn K cd_Type_atoms "Type.atoms" = true)
    (k_Type_atoms : PySem.W.keepIn K (.ref f_Type_atoms) = true)
    (a_Type_positive : PySem.W.findIn K (.ref C_Type) "positive" = some (some (.ref p_Type_positive)))
    (g_Type_positive : PySem.W.specialIn K (.ref p_Type_positive) "__get__" = some (some (.builtin "property.__get__")))
    (t_Type_positive : PySem.W.takesIn K (.ref p_Type_positive) = some true)
    (r_Type_positive : PySem.W.recIn K p_Type_positive "property" = some (.ref f_Type_positive :: rs_Type_positive))
    (l_Type_positive : K.lookup f_Type_positive = some ⟨oc_Type_positive, od_Type_positive, .func (PySem.W.fnOf "positive" "Type.positive" (defArgs s_Type_positive) (defBody s_Type_positive) (defScope s_Type_positive) .none kV_Type_positive dc_Type_positive pm_Type_positive an_Type_positive cd_Type_positive ct_Type_positive), sl_Type_positive⟩)
    (c_Type_positive : PySem.W.codeIn K cd_Type_positive "Type.positive" = true)
    (k_Type_positive : PySem.W.keepIn K (.ref f_Type_positive) = true)
    (a_Type_negative : PySem.W.findIn K (.ref C_Type) "negative" = some (some (.ref p_Type_negative)))
    (g_Type_negative : PySem.W.specialIn K (.ref p_Type_negative) "__get__" = some (some (.builtin "property.__get__")))
    (t_Type_negative : PySem.W.takesIn K (.ref p_Type_negative) = some true)
    (r_Type_negative : PySem.W.recIn K p_Type_negative "property" = some (.ref f_Type_negative :: rs_Type_negative))
    (l_Type_negative : K.lookup f_Type_negative = some ⟨oc_Type_negative, od_Type_negative, .func (PySem.W.fnOf "negative" "Type.negative" (defArgs s_Type_negative) (defBody s_Type_negative) (defScope s_Type_negative) .none kV_Type_negative dc_Type_negative pm_Type_negative an_Type_negative cd_Type_negative ct_Type_negative), sl_Type_negative⟩)
    (c_Type_negative : PySem.W.codeIn K cd_Type_negative "Type.negative" = true)
    (k_Type_negative : PySem.W.keepIn K (.ref f_Type_negative) = true)
    (a__law_roll : PySem.W.nsIn K mainGlobals "_law_roll" = some (some (.ref f__law_roll)))
    (l__law_roll : K.lookup f__law_roll = some ⟨oc__law_roll, od__law_roll, .func (PySem.W.fnOf "_law_roll" "_law_roll" (defArgs s__law_roll) (defBody s__law_roll) (defScope s__law_roll) .none kV__law_roll dc__law_roll pm__law_roll an__law_roll cd__law_roll ct__law_roll), sl__law_roll⟩)
    (c__law_roll : PySem.W.codeIn K cd__law_roll "_law_roll" = true)
    (k__law_roll : PySem.W.keepIn K (.ref f__law_roll) = true)
    (a__law_pick : PySem.W.nsIn K mainGlobals "_law_pick" = some (some (.ref f__law_pick)))
    (l__law_pick : K.lookup f__law_pick = some ⟨oc__law_pick, od__law_pick, .func (PySem.W.fnOf "_law_pick" "_law_pick" (defArgs s__law_pick) (defBody s__law_pick) (defScope s__law_pick) .none kV__law_pick dc__law_pick pm__law_pick an__law_pick cd__law_pick ct__law_pick), sl__law_pick⟩)
    (c__law_pick : PySem.W.codeIn K cd__law_pick "_law_pick" = true)
    (k__law_pick : PySem.W.keepIn K (.ref f__law_pick) = true)
    (a__law_atoms_of : PySem.W.nsIn K mainGlobals "_law_atoms_of" = some (some (.ref f__law_atoms_of)))
    (l__law_atoms_of : K.lookup f__law_atoms_of = some ⟨oc__law_atoms_of, od__law_atoms_of, .func (PySem.W.fnOf "_law_atoms_of" "_law_atoms_of" (defArgs s__law_atoms_of) (defBody s__law_atoms_of) (defScope s__law_atoms_of) .none kV__law_atoms_of dc__law_atoms_of pm__law_atoms_of an__law_atoms_of cd__law_atoms_of ct__law_atoms_of), sl__law_atoms_of⟩)
    (c__law_atoms_of : PySem.W.codeIn K cd__law_atoms_of "_law_atoms_of" = true)
    (k__law_atoms_of : PySem.W.keepIn K (.ref f__law_atoms_of) = true)
    (a__law_kind : PySem.W.nsIn K mainGlobals "_law_kind" = some (some (.ref f__law_kind)))
    (l__law_kind : K.lookup f__law_kind = some ⟨oc__law_kind, od__law_kind, .func (PySem.W.fnOf "_law_kind" "_law_kind" (defArgs s__law_kind) (defBody s__law_kind) (defScope s__law_kind) .none kV__law_kind dc__law_kind pm__law_kind an__law_kind cd__law_kind ct__law_kind), sl__law_kind⟩)
    (c__law_kind : PySem.W.codeIn K cd__law_kind "_law_kind" = true)
    (k__law_kind : PySem.W.keepIn K (.ref f__law_kind) = true)
    (a__law_made_kind : PySem.W.nsIn K mainGlobals "_law_made_kind" = some (some (.ref f__law_made_kind)))
    (l__law_made_kind : K.lookup f__law_made_kind = some ⟨oc__law_made_kind, od__law_made_kind, .func (PySem.W.fnOf "_law_made_kind" "_law_made_kind" (defArgs s__law_made_kind) (defBody s__law_made_kind) (defScope s__law_made_kind) .none kV__law_made_kind dc__law_made_kind pm__law_made_kind an__law_made_kind cd__law_made_kind ct__law_made_kind), sl__law_made_kind⟩)
    (c__law_made_kind : PySem.W.codeIn K cd__law_made_kind "_law_made_kind" = true)
    (k__law_made_kind : PySem.W.keepIn K (.ref f__law_made_kind) = true)
    (a__law_text : PySem.W.nsIn K mainGlobals "_law_text" = some (some (.ref f__law_text)))
    (l__law_text : K.lookup f__law_text = some ⟨oc__law_text, od__law_text, .func (PySem.W.fnOf "_law_text" "_law_text" (defArgs s__law_text) (defBody s__law_text) (defScope s__law_text) .none kV__law_text dc__law_text pm__law_text an__law_text cd__law_text ct__law_text), sl__law_text⟩)
    (c__law_text : PySem.W.codeIn K cd__law_text "_law_text" = true)
    (k__law_text : PySem.W.keepIn K (.ref f__law_text) = true)
    (a__law_order : PySem.W.nsIn K mainGlobals "_law_order" = some (some (.ref f__law_order)))
    (l__law_order : K.lookup f__law_order = some ⟨oc__law_order, od__law_order, .func (PySem.W.fnOf "_law_order" "_law_order" (defArgs s__law_order) (defBody s__law_order) (defScope s__law_order) .none kV__law_order dc__law_order pm__law_order an__law_order cd__law_order ct__law_order), sl__law_order⟩)
    (c__law_order : PySem.W.codeIn K cd__law_order "_law_order" = true)
    (k__law_order : PySem.W.keepIn K (.ref f__law_order) = true)
    (a__law_parts : PySem.W.nsIn K mainGlobals "_law_parts" = some (some (.ref f__law_parts)))
    (l__law_parts : K.lookup f__law_parts = some ⟨oc__law_parts, od__law_parts, .func (PySem.W.fnOf "_law_parts" "_law_parts" (defArgs s__law_parts) (defBody s__law_parts) (defScope s__law_parts) .none kV__law_parts dc__law_parts pm__law_parts an__law_parts cd__law_parts ct__law_parts), sl__law_parts⟩)
    (c__law_parts : PySem.W.codeIn K cd__law_parts "_law_parts" = true)
    (k__law_parts : PySem.W.keepIn K (.ref f__law_parts) = true)
    (a_Type_parts : PySem.W.findIn K (.ref C_Type) "parts" = some (some (.ref p_Type_parts)))
    (g_Type_parts : PySem.W.specialIn K (.ref p_Type_parts) "__get__" = some (some (.builtin "property.__get__")))
    (t_Type_parts : PySem.W.takesIn K (.ref p_Type_parts) = some true)
    (r_Type_parts : PySem.W.recIn K p_Type_parts "property" = some (.ref f_Type_parts :: rs_Type_parts))
    (l_Type_parts : K.lookup f_Type_parts = some ⟨oc_Type_parts, od_Type_parts, .func (PySem.W.fnOf "parts" "Type.parts" (defArgs s_Type_parts) (defBody s_Type_parts) (defScope s_Type_parts) .none kV_Type_parts dc_Type_parts pm_Type_parts an_Type_parts cd_Type_parts ct_Type_parts), sl_Type_parts⟩)
    (c_Type_parts : PySem.W.codeIn K cd_Type_parts "Type.parts" = true)
    (k_Type_parts : PySem.W.keepIn K (.ref f_Type_parts) = true)
    (a__law_signed : PySem.W.nsIn K mainGlobals "_law_signed" = some (some (.ref f__law_signed)))
    (l__law_signed : K.lookup f__law_signed = some ⟨oc__law_signed, od__law_signed, .func (PySem.W.fnOf "_law_signed" "_law_signed" (defArgs s__law_signed) (defBody s__law_signed) (defScope s__law_signed) .none kV__law_signed dc__law_signed pm__law_signed an__law_signed cd__law_signed ct__law_signed), sl__law_signed⟩)
    (c__law_signed : PySem.W.codeIn K cd__law_signed "_law_signed" = true)
    (k__law_signed : PySem.W.keepIn K (.ref f__law_signed) = true)
    (a_Type___contains__ : PySem.W.findIn K (.ref C_Type) "__contains__" = some (some (.ref f_Type___contains__)))
    (i_Type___contains__ : PySem.W.isFn K (.ref f_Type___contains__) = true)
    (l_Type___contains__ : K.lookup f_Type___contains__ = some ⟨oc_Type___contains__, od_Type___contains__, .func (PySem.W.fnOf "__contains__" "Type.__contains__" (defArgs s_Type___contains__) (defBody s_Type___contains__) (defScope s_Type___contains__) .none kV_Type___contains__ dc_Type___contains__ pm_Type___contains__ an_Type___contains__ cd_Type___contains__ ct_Type___contains__), sl_Type___contains__⟩)
    (c_Type___contains__ : PySem.W.codeIn K cd_Type___contains__ "Type.__contains__" = true)
    (k_Type___contains__ : PySem.W.keepIn K (.ref f_Type___contains__) = true)
    (a_Type___iter__ : PySem.W.findIn K (.ref C_Type) "__iter__" = some (some (.ref f_Type___iter__)))
    (i_Type___iter__ : PySem.W.isFn K (.ref f_Type___iter__) = true)
    (l_Type___iter__ : K.lookup f_Type___iter__ = some ⟨oc_Type___iter__, od_Type___iter__, .func (PySem.W.fnOf "__iter__" "Type.__iter__" (defArgs s_Type___iter__) (defBody s_Type___iter__) (defScope s_Type___iter__) .none kV_Type___iter__ dc_Type___iter__ pm_Type___iter__ an_Type___iter__ cd_Type___iter__ ct_Type___iter__), sl_Type___iter__⟩)
    (c_Type___iter__ : PySem.W.codeIn K cd_Type___iter__ "Type.__iter__" = true)
    (k_Type___iter__ : PySem.W.keepIn K (.ref f_Type___iter__) = true)
    (a_Type___len__ : PySem.W.findIn K (.ref C_Type) "__len__" = some (some (.ref f_Type___len__)))
    (i_Type___len__ : PySem.W.isFn K (.ref f_Type___len__) = true)
    (l_Type___len__ : K.lookup f_Type___len__ = some ⟨oc_Type___len__, od_Type___len__, .func (PySem.W.fnOf "__len__" "Type.__len__" (defArgs s_Type___len__) (defBody s_Type___len__) (defScope s_Type___len__) .none kV_Type___len__ dc_Type___len__ pm_Type___len__ an_Type___len__ cd_Type___len__ ct_Type___len__), sl_Type___len__⟩)
    (c_Type___len__ : PySem.W.codeIn K cd_Type___len__ "Type.__len__" = true)
    (k_Type___len__ : PySem.W.keepIn K (.ref f_Type___len__) = true)
    (a_is_integer : PySem.W.nsIn K mainGlobals "is_integer" = some (some (.ref f_is_integer)))
    (l_is_integer : K.lookup f_is_integer = some ⟨oc_is_integer, od_is_integer, .func (PySem.W.fnOf "is_integer" "is_integer" (defArgs s_is_integer) (defBody s_is_integer) (defScope s_is_integer) .none kV_is_integer dc_is_integer pm_is_integer an_is_integer cd_is_integer ct_is_integer), sl_is_integer⟩)
    (c_is_integer : PySem.W.codeIn K cd_is_integer "is_integer" = true)
    (k_is_integer : PySem.W.keepIn K (.ref f_is_integer) = true)
    (a_Type___getitem__ : PySem.W.findIn K (.ref C_Type) "__getitem__" = some (some (.ref f_Type___getitem__)))
    (i_Type___getitem__ : PySem.W.isFn K (.ref f_Type___getitem__) = true)
    (fi_Type___getitem__ : PySem.W.fnIn K f_Type___getitem__ = true)
    (l_Type___getitem__ : K.lookup f_Type___getitem__ = some ⟨oc_Type___getitem__, od_Type___getitem__, .func (PySem.W.fnOf "__getitem__" "Type.__getitem__" (defArgs s_Type___getitem__) (defBody s_Type___getitem__) (defScope s_Type___getitem__) .none kV_Type___getitem__ dc_Type___getitem__ pm_Type___getitem__ an_Type___getitem__ cd_Type___getitem__ ct_Type___getitem__), sl_Type___getitem__⟩)
    (c_Type___getitem__ : PySem.W.codeIn K cd_Type___getitem__ "Type.__getitem__" = true)
    (k_Type___getitem__ : PySem.W.keepIn K (.ref f_Type___getitem__) = true)
    (a_Type___str__ : PySem.W.findIn K (.ref C_Type) "__str__" = some (some (.ref f_Type___str__)))
    (i_Type___str__ : PySem.W.isFn K (.ref f_Type___str__) = true)
    (l_Type___str__ : K.lookup f_Type___str__ = some ⟨oc_Type___str__, od_Type___str__, .func (PySem.W.fnOf "__str__" "Type.__str__" (defArgs s_Type___str__) (defBody s_Type___str__) (defScope s_Type___str__) .none kV_Type___str__ dc_Type___str__ pm_Type___str__ an_Type___str__ cd_Type___str__ ct_Type___str__), sl_Type___str__⟩)
    (c_Type___str__ : PySem.W.codeIn K cd_Type___str__ "Type.__str__" = true)
    (k_Type___str__ : PySem.W.keepIn K (.ref f_Type___str__) = true)
    (a__law_told_right : PySem.W.nsIn K mainGlobals "_law_told_right" = some (some (.ref f__law_told_right)))
    (l__law_told_right : K.lookup f__law_told_right = some ⟨oc__law_told_right, od__law_told_right, .func (PySem.W.fnOf "_law_told_right" "_law_told_right" (defArgs s__law_told_right) (defBody s__law_told_right) (defScope s__law_told_right) .none kV__law_told_right dc__law_told_right pm__law_told_right an__law_told_right cd__law_told_right ct__law_told_right), sl__law_told_right⟩)
    (c__law_told_right : PySem.W.codeIn K cd__law_told_right "_law_told_right" = true)
    (k__law_told_right : PySem.W.keepIn K (.ref f__law_told_right) = true)
    (a_Type___eq__ : PySem.W.findIn K (.ref C_Type) "__eq__" = some (some (.ref f_Type___eq__)))
    (i_Type___eq__ : PySem.W.isFn K (.ref f_Type___eq__) = true)
    (l_Type___eq__ : K.lookup f_Type___eq__ = some ⟨oc_Type___eq__, od_Type___eq__, .func (PySem.W.fnOf "__eq__" "Type.__eq__" (defArgs s_Type___eq__) (defBody s_Type___eq__) (defScope s_Type___eq__) .none kV_Type___eq__ dc_Type___eq__ pm_Type___eq__ an_Type___eq__ cd_Type___eq__ ct_Type___eq__), sl_Type___eq__⟩)
    (c_Type___eq__ : PySem.W.codeIn K cd_Type___eq__ "Type.__eq__" = true)
    (k_Type___eq__ : PySem.W.keepIn K (.ref f_Type___eq__) = true)
    (a__law_right : PySem.W.nsIn K mainGlobals "_law_right" = some (some (.ref f__law_right)))
    (l__law_right : K.lookup f__law_right = some ⟨oc__law_right, od__law_right, .func (PySem.W.fnOf "_law_right" "_law_right" (defArgs s__law_right) (defBody s__law_right) (defScope s__law_right) .none kV__law_right dc__law_right pm__law_right an__law_right cd__law_right ct__law_right), sl__law_right⟩)
    (c__law_right : PySem.W.codeIn K cd__law_right "_law_right" = true)
    (k__law_right : PySem.W.keepIn K (.ref f__law_right) = true)
    (a_law : PySem.W.nsIn K mainGlobals "law" = some (some (.ref f_law)))
    (l_law : K.lookup f_law = some ⟨oc_law, od_law, .func (PySem.W.fnOf "law" "law" (defArgs s_law) (defBody s_law) (defScope s_law) .none kV_law dc_law pm_law an_law cd_law ct_law), sl_law⟩)
    (c_law : PySem.W.codeIn K cd_law "law" = true)
    (k_law : PySem.W.keepIn K (.ref f_law) = true)
    (z_RuntimeError : PySem.W.nsIn K mainGlobals "RuntimeError" = some none)
    (z_ValueError : PySem.W.nsIn K mainGlobals "ValueError" = some none)
    (z_abs : PySem.W.nsIn K mainGlobals "abs" = some none)
    (z_all : PySem.W.nsIn K mainGlobals "all" = some none)
    (z_bool : PySem.W.nsIn K mainGlobals "bool" = some none)
    (z_classmethod : PySem.W.nsIn K mainGlobals "classmethod" = some none)
    (z_dict : PySem.W.nsIn K mainGlobals "dict" = some none)
    (z_int : PySem.W.nsIn K mainGlobals "int" = some none)
    (z_isinstance : PySem.W.nsIn K mainGlobals "isinstance" = some none)
    (z_iter : PySem.W.nsIn K mainGlobals "iter" = some none)
    (z_len : PySem.W.nsIn K mainGlobals "len" = some none)
    (z_list : PySem.W.nsIn K mainGlobals "list" = some none)
    (z_max : PySem.W.nsIn K mainGlobals "max" = some none)
    (z_min : PySem.W.nsIn K mainGlobals "min" = some none)
    (z_property : PySem.W.nsIn K mainGlobals "property" = some none)
    (z_range : PySem.W.nsIn K mainGlobals "range" = some none)
    (z_set : PySem.W.nsIn K mainGlobals "set" = some none)
    (z_sorted : PySem.W.nsIn K mainGlobals "sorted" = some none)
    (z_str : PySem.W.nsIn K mainGlobals "str" = some none)
    (z_tuple : PySem.W.nsIn K mainGlobals "tuple" = some none)
    (g_MAX_LETTERS : PySem.W.nsIn K mainGlobals "MAX_LETTERS" = some (some (.int 8 t_MAX_LETTERS)))
    (g_MAX_PLACES : PySem.W.nsIn K mainGlobals "MAX_PLACES" = some (some (.int 15 t_MAX_PLACES)))
    (g_MAX_ORDER : PySem.W.nsIn K mainGlobals "MAX_ORDER" = some (some (.int 4 t_MAX_ORDER)))
    (g__ARROW : PySem.W.nsIn K mainGlobals "_ARROW" = some (some (.str " -> " t__ARROW))) :
    ∃ fd : FuncData, (∀ (s : Shared) (v : Value), BindsTo s fd ⟨[v], []⟩ [("_law_script", v)]) ∧ ∀ base : Heap, K.In base → base.Ns mainGlobals mg → FnOkG l.prog w K mg base CX0 20 fa fd ["_law_script"] (sp_law K) := by
  have e := hfa.symm.trans (PySem.W.mg_of X G a_law)
  cases e
  have k_Type : Cls K C_Type := ⟨pg_Type, hd_Type, po_Type, sa_Type⟩
  have x_Type : XType K C_Type := ⟨n_inputs_Type, n_atom_Type, n_places_Type, n_order_Type, n_text_Type, fst_Type, nfs_Type, (odd_of hd_Type tyt_Type od_NoneType_Type), nf_NoneType_Type, (odd_of hd_Type tyt_Type od_int_Type), nf_int_Type, (odd_of hd_Type tyt_Type od_str_Type), nf_str_Type, (odd_of hd_Type tyt_Type od_tuple_Type), nf_tuple_Type, (odd_of hd_Type tyt_Type od_list_Type), nf_list_Type, (odd_of hd_Type tyt_Type od_dict_Type), nf_dict_Type, (fun f M => by have e := M.at_.symm.trans a_Type___getitem__; cases e; exact fi_Type___getitem__), ne_Type, un_Type, cl1_Type, cl2_Type, cl3_Type, cl4_Type⟩
  have T : Txt K mg C_Type := ⟨PySem.W.mg_of X G aC_Type, k_Type, x_Type, PySem.W.mg_none_of X G z_RuntimeError, PySem.W.mg_none_of X G z_ValueError, PySem.W.mg_none_of X G z_abs, PySem.W.mg_none_of X G z_all, PySem.W.mg_none_of X G z_bool, PySem.W.mg_none_of X G z_classmethod, PySem.W.mg_none_of X G z_dict, PySem.W.mg_none_of X G z_int, PySem.W.mg_none_of X G z_isinstance, PySem.W.mg_none_of X G z_iter, PySem.W.mg_none_of X G z_len, PySem.W.mg_none_of X G z_list, PySem.W.mg_none_of X G z_max, PySem.W.mg_none_of X G z_min, PySem.W.mg_none_of X G z_property, PySem.W.mg_none_of X G z_range, PySem.W.mg_none_of X G z_set, PySem.W.mg_none_of X G z_sorted, PySem.W.mg_none_of X G z_str, PySem.W.mg_none_of X G z_tuple, ⟨_, PySem.W.mg_of X G g_MAX_LETTERS, ⟨_, rfl⟩⟩, ⟨_, PySem.W.mg_of X G g_MAX_PLACES, ⟨_, rfl⟩⟩, ⟨_, PySem.W.mg_of X G g_MAX_ORDER, ⟨_, rfl⟩⟩, ⟨_, PySem.W.mg_of X G g__ARROW, ⟨_, rfl⟩⟩⟩
  refine ⟨PySem.W.fnOf "law" "law" (defArgs s_law) (defBody s_law) (defScope s_law) .none kV_law dc_law pm_law an_law cd_law ct_law, fun s v => .of_eq rfl, fun base _ _ => ?_⟩
  have F__pieces := fun_mk (st := s__pieces) l__pieces c__pieces k__pieces
  have B__pieces := F__pieces.binds (ps := ["text"]) fun _ _ _ _ _ _ us hl => match us, hl with | [_], _ => rfl
  have D__pieces : CalN l.prog w K mg base "_pieces" 1 ["text"] (sp__pieces K) := ⟨_, _, ok__pieces (P := l.prog) (w := w) (base := base) T F__pieces, PySem.W.mg_of X G a__pieces, k__pieces, B__pieces⟩
  have F__is_tuple_of_types := fun_mk (st := s__is_tuple_of_types) l__is_tuple_of_types c__is_tuple_of_types k__is_tuple_of_types
  have B__is_tuple_of_types := F__is_tuple_of_types.binds (ps := ["value"]) fun _ _ _ _ _ _ us hl => match us, hl with | [_], _ => rfl
  have D__is_tuple_of_types : CalN l.prog w K mg base "_is_tuple_of_types" 1 ["value"] (sp__is_tuple_of_types K C_Type) := ⟨_, _, ok__is_tuple_of_types (P := l.prog) (w := w) (base := base) T F__is_tuple_of_types, PySem.W.mg_of X G a__is_tuple_of_types, k__is_tuple_of_types, B__is_tuple_of_types⟩
  have F_is_word := fun_mk (st := s_is_word) l_is_word c_is_word k_is_word
  have B_is_word := F_is_word.binds (ps := ["value"]) fun _ _ _ _ _ _ us hl => match us, hl with | [_], _ => rfl
  have D_is_word : CalN l.prog w K mg base "is_word" 1 ["value"] (sp_is_word K) := ⟨_, _, ok_is_word (P := l.prog) (w := w) (base := base) T F_is_word, PySem.W.mg_of X G a_is_word, k_is_word, B_is_word⟩
  have F_Type_order := fun_mk (st := s_Type_order) l_Type_order c_Type_order k_Type_order
  have B_Type_order := F_Type_order.binds (ps := ["self"]) fun _ _ _ _ _ _ us hl => match us, hl with | [_], _ => rfl
  have D_Type_order : PrpC l.prog w K mg base C_Type "order" 1 ["self"] (getSp C_Type "_order") := ⟨_, _, _, F_Type_order.getter sc_Type_order k_Type x_Type.n_order, ⟨a_Type_order, g_Type_order, t_Type_order, _, r_Type_order⟩, B_Type_order⟩
  have F_Type_inputs := fun_mk (st := s_Type_inputs) l_Type_inputs c_Type_inputs k_Type_inputs
  have B_Type_inputs := F_Type_inputs.binds (ps := ["self"]) fun _ _ _ _ _ _ us hl => match us, hl with | [_], _ => rfl
  have D_Type_inputs : PrpC l.prog w K mg base C_Type "inputs" 1 ["self"] (getSp C_Type "_inputs") := ⟨_, _, _, F_Type_inputs.getter sc_Type_inputs k_Type x_Type.n_inputs, ⟨a_Type_inputs, g_Type_inputs, t_Type_inputs, _, r_Type_inputs⟩, B_Type_inputs⟩
  have F_Type_text := fun_mk (st := s_Type_text) l_Type_text c_Type_text k_Type_text
  have B_Type_text := F_Type_text.binds (ps := ["self"]) fun _ _ _ _ _ _ us hl => match us, hl with | [_], _ => rfl
  have D_Type_text : PrpC l.prog w K mg base C_Type "text" 1 ["self"] (getSp C_Type "_text") := ⟨_, _, _, F_Type_text.getter sc_Type_text k_Type x_Type.n_text, ⟨a_Type_text, g_Type_text, t_Type_text, _, r_Type_text⟩, B_Type_text⟩
  have F__text_inside := fun_mk (st := s__text_inside) l__text_inside c__text_inside k__text_inside
  have B__text_inside := F__text_inside.binds (ps := ["wanted"]) fun _ _ _ _ _ _ us hl => match us, hl with | [_], _ => rfl
  have D__text_inside : CalN l.prog w K mg base "_text_inside" 3 ["wanted"] (sp__text_inside K C_Type) := ⟨_, _, ok__text_inside (P := l.prog) (w := w) (base := base) T D_Type_inputs D_Type_text F__text_inside, PySem.W.mg_of X G a__text_inside, k__text_inside, B__text_inside⟩
  have F_Type___init__ := fun_mk (st := s_Type___init__) l_Type___init__ c_Type___init__ k_Type___init__
  have B_Type___init__ := F_Type___init__.binds (ps := ["self", "inputs", "atom"]) fun _ _ _ _ _ _ us hl => match us, hl with | [_, _, _], _ => rfl
  have D_Type___init__ : MakC l.prog w K mg base C_Type 4 ["self", "inputs", "atom"] (sp_Type___init__ K C_Type) := ⟨_, _, ok_Type___init__ (P := l.prog) (w := w) (base := base) T D__is_tuple_of_types D_is_word D_Type_order D__text_inside F_Type___init__, ⟨mk_Type, a_Type___init__, i_Type___init__, kc_Type⟩, B_Type___init__⟩
  have F_Type_plain := fun_mk (st := s_Type_plain) l_Type_plain c_Type_plain k_Type_plain
  have B_Type_plain := F_Type_plain.binds (ps := ["cls", "atom"]) fun _ _ _ _ _ _ us hl => match us, hl with | [_, _], _ => rfl
  have D_Type_plain : CmtC l.prog w K mg base C_Type "plain" 6 ["cls", "atom"] (sp_Type_plain K C_Type) := ⟨_, _, _, _, ok_Type_plain (P := l.prog) (w := w) (base := base) T D_Type___init__ F_Type_plain, ⟨rd_Type, ga_Type⟩, ⟨a_Type_plain, ⟨_, r_Type_plain⟩, fi_Type_plain⟩, B_Type_plain⟩
  have F__read_freely := fun_mk (st := s__read_freely) l__read_freely c__read_freely k__read_freely
  have B__read_freely := F__read_freely.binds (ps := ["text", "depth"]) fun _ _ _ _ _ _ us hl => match us, hl with | [_, _], _ => rfl
  have F__read_piece := fun_mk (st := s__read_piece) l__read_piece c__read_piece k__read_piece
  have B__read_piece := F__read_piece.binds (ps := ["piece", "depth"]) fun _ _ _ _ _ _ us hl => match us, hl with | [_, _], _ => rfl
  have R__read_piece := ok__read_both (P := l.prog) (w := w) (base := base) T D_Type___init__ D__pieces D_Type_plain F__read_freely (PySem.W.mg_of X G a__read_freely) B__read_freely F__read_piece (PySem.W.mg_of X G a__read_piece) B__read_piece 5
  have D__read_freely : CalN l.prog w K mg base "_read_freely" 17 ["text", "depth"] (sp__read_freely K C_Type) := ⟨_, _, R__read_piece.1, PySem.W.mg_of X G a__read_freely, k__read_freely, B__read_freely⟩
  have F_Type_read := fun_mk (st := s_Type_read) l_Type_read c_Type_read k_Type_read
  have B_Type_read := F_Type_read.binds (ps := ["cls", "text"]) fun _ _ _ _ _ _ us hl => match us, hl with | [_, _], _ => rfl
  have D_Type_read : CmtC l.prog w K mg base C_Type "read" 18 ["cls", "text"] (sp_Type_read K C_Type) := ⟨_, _, _, _, ok_Type_read (P := l.prog) (w := w) (base := base) T D__read_freely D_Type_text F_Type_read, ⟨rd_Type, ga_Type⟩, ⟨a_Type_read, ⟨_, r_Type_read⟩, fi_Type_read⟩, B_Type_read⟩
  have F__law_dice := fun_mk (st := s__law_dice) l__law_dice c__law_dice k__law_dice
  have B__law_dice := F__law_dice.binds (ps := ["_law_script", "_law_spot"]) fun _ _ _ _ _ _ us hl => match us, hl with | [_, _], _ => rfl
  have D__law_dice : Cal l.prog w K mg base "_law_dice" 1 ["_law_script", "_law_spot"] (sp__law_dice K) := ⟨_, _, ok__law_dice (P := l.prog) (w := w) (base := base) T F__law_dice, PySem.W.mg_of X G a__law_dice, k__law_dice, B__law_dice⟩
  have F_Type_atom := fun_mk (st := s_Type_atom) l_Type_atom c_Type_atom k_Type_atom
  have B_Type_atom := F_Type_atom.binds (ps := ["self"]) fun _ _ _ _ _ _ us hl => match us, hl with | [_], _ => rfl
  have D_Type_atom : PrpC l.prog w K mg base C_Type "atom" 1 ["self"] (getSp C_Type "_atom") := ⟨_, _, _, F_Type_atom.getter sc_Type_atom k_Type x_Type.n_atom, ⟨a_Type_atom, g_Type_atom, t_Type_atom, _, r_Type_atom⟩, B_Type_atom⟩
  have F_Type_atoms := fun_mk (st := s_Type_atoms) l_Type_atoms c_Type_atoms k_Type_atoms
  have B_Type_atoms := F_Type_atoms.binds (ps := ["self"]) fun _ _ _ _ _ _ us hl => match us, hl with | [_], _ => rfl
  have D_Type_atoms : PrpC l.prog w K mg base C_Type "atoms" 1 ["self"] (sp_Type_atoms K C_Type) := ⟨_, _, _, ok_Type_atoms (P := l.prog) (w := w) (base := base) T F_Type_atoms, ⟨a_Type_atoms, g_Type_atoms, t_Type_atoms, _, r_Type_atoms⟩, B_Type_atoms⟩
  have F_Type_positive := fun_mk (st := s_Type_positive) l_Type_positive c_Type_positive k_Type_positive
  have B_Type_positive := F_Type_positive.binds (ps := ["self"]) fun _ _ _ _ _ _ us hl => match us, hl with | [_], _ => rfl
  have F_Type_negative := fun_mk (st := s_Type_negative) l_Type_negative c_Type_negative k_Type_negative
  have B_Type_negative := F_Type_negative.binds (ps := ["self"]) fun _ _ _ _ _ _ us hl => match us, hl with | [_], _ => rfl
  have R_Type_negative := ok_Type_posneg (P := l.prog) (w := w) (base := base) T F_Type_positive ⟨a_Type_positive, g_Type_positive, t_Type_positive, _, r_Type_positive⟩ B_Type_positive F_Type_negative ⟨a_Type_negative, g_Type_negative, t_Type_negative, _, r_Type_negative⟩ B_Type_negative 6
  have D_Type_positive : PrpC l.prog w K mg base C_Type "positive" 13 ["self"] (sp_Type_positive K C_Type) := ⟨_, _, _, R_Type_negative.1, ⟨a_Type_positive, g_Type_positive, t_Type_positive, _, r_Type_positive⟩, B_Type_positive⟩
  have D_Type_negative : PrpC l.prog w K mg base C_Type "negative" 13 ["self"] (sp_Type_negative K C_Type) := ⟨_, _, _, R_Type_negative.2, ⟨a_Type_negative, g_Type_negative, t_Type_negative, _, r_Type_negative⟩, B_Type_negative⟩
  have F__law_roll := fun_mk (st := s__law_roll) l__law_roll c__law_roll k__law_roll
  have B__law_roll := F__law_roll.binds (ps := ["_law_dice_here", "_law_total"]) fun _ _ _ _ _ _ us hl => match us, hl with | [_, _], _ => rfl
  have D__law_roll : Cal l.prog w K mg base "_law_roll" 1 ["_law_dice_here", "_law_total"] (sp__law_roll K) := ⟨_, _, ok__law_roll (P := l.prog) (w := w) (base := base) T F__law_roll, PySem.W.mg_of X G a__law_roll, k__law_roll, B__law_roll⟩
  have F__law_pick := fun_mk (st := s__law_pick) l__law_pick c__law_pick k__law_pick
  have B__law_pick := F__law_pick.binds (ps := ["_law_dice_here", "_law_items"]) fun _ _ _ _ _ _ us hl => match us, hl with | [_, _], _ => rfl
  have D__law_pick : Cal l.prog w K mg base "_law_pick" 2 ["_law_dice_here", "_law_items"] (sp__law_pick K) := ⟨_, _, ok__law_pick (P := l.prog) (w := w) (base := base) T D__law_roll F__law_pick, PySem.W.mg_of X G a__law_pick, k__law_pick, B__law_pick⟩
  have F__law_atoms_of := fun_mk (st := s__law_atoms_of) l__law_atoms_of c__law_atoms_of k__law_atoms_of
  have B__law_atoms_of := F__law_atoms_of.binds (ps := ["_law_kind_here"]) fun _ _ _ _ _ _ us hl => match us, hl with | [_], _ => rfl
  have D__law_atoms_of : Cal l.prog w K mg base "_law_atoms_of" 7 ["_law_kind_here"] (sp__law_atoms_of K) := ⟨_, _, ok__law_atoms_of (P := l.prog) (w := w) (base := base) T F__law_atoms_of (PySem.W.mg_of X G a__law_atoms_of) B__law_atoms_of 6, PySem.W.mg_of X G a__law_atoms_of, k__law_atoms_of, B__law_atoms_of⟩
  have F__law_kind := fun_mk (st := s__law_kind) l__law_kind c__law_kind k__law_kind
  have B__law_kind := F__law_kind.binds (ps := ["_law_dice_here", "_law_atoms", "_law_order_here", "_law_most"]) fun _ _ _ _ _ _ us hl => match us, hl with | [_, _, _, _], _ => rfl
  have D__law_kind : Cal l.prog w K mg base "_law_kind" 14 ["_law_dice_here", "_law_atoms", "_law_order_here", "_law_most"] (sp__law_kind K) := ⟨_, _, ok__law_kind (P := l.prog) (w := w) (base := base) T D__law_pick D__law_roll D__law_atoms_of F__law_kind (PySem.W.mg_of X G a__law_kind) B__law_kind 6, PySem.W.mg_of X G a__law_kind, k__law_kind, B__law_kind⟩
  have F__law_made_kind := fun_mk (st := s__law_made_kind) l__law_made_kind c__law_made_kind k__law_made_kind
  have B__law_made_kind := F__law_made_kind.binds (ps := ["_law_kind_here"]) fun _ _ _ _ _ _ us hl => match us, hl with | [_], _ => rfl
  have D__law_made_kind : Cal l.prog w K mg base "_law_made_kind" 12 ["_law_kind_here"] (sp__law_made_kind K C_Type) := ⟨_, _, ok__law_made_kind (P := l.prog) (w := w) (base := base) T D_Type___init__ F__law_made_kind (PySem.W.mg_of X G a__law_made_kind) B__law_made_kind 6, PySem.W.mg_of X G a__law_made_kind, k__law_made_kind, B__law_made_kind⟩
  have F__law_text := fun_mk (st := s__law_text) l__law_text c__law_text k__law_text
  have B__law_text := F__law_text.binds (ps := ["_law_kind_here"]) fun _ _ _ _ _ _ us hl => match us, hl with | [_], _ => rfl
  have D__law_text : Cal l.prog w K mg base "_law_text" 7 ["_law_kind_here"] (sp__law_text K) := ⟨_, _, ok__law_text (P := l.prog) (w := w) (base := base) T F__law_text (PySem.W.mg_of X G a__law_text) B__law_text 6, PySem.W.mg_of X G a__law_text, k__law_text, B__law_text⟩
  have F__law_order := fun_mk (st := s__law_order) l__law_order c__law_order k__law_order
  have B__law_order := F__law_order.binds (ps := ["_law_kind_here"]) fun _ _ _ _ _ _ us hl => match us, hl with | [_], _ => rfl
  have D__law_order : Cal l.prog w K mg base "_law_order" 7 ["_law_kind_here"] (sp__law_order K) := ⟨_, _, ok__law_order (P := l.prog) (w := w) (base := base) T F__law_order (PySem.W.mg_of X G a__law_order) B__law_order 6, PySem.W.mg_of X G a__law_order, k__law_order, B__law_order⟩
  have F__law_parts := fun_mk (st := s__law_parts) l__law_parts c__law_parts k__law_parts
  have B__law_parts := F__law_parts.binds (ps := ["_law_kind_here"]) fun _ _ _ _ _ _ us hl => match us, hl with | [_], _ => rfl
  have D__law_parts : Cal l.prog w K mg base "_law_parts" 14 ["_law_kind_here"] (sp__law_parts K) := ⟨_, _, ok__law_parts (P := l.prog) (w := w) (base := base) T D__law_text F__law_parts (PySem.W.mg_of X G a__law_parts) B__law_parts 6, PySem.W.mg_of X G a__law_parts, k__law_parts, B__law_parts⟩
  have F_Type_parts := fun_mk (st := s_Type_parts) l_Type_parts c_Type_parts k_Type_parts
  have B_Type_parts := F_Type_parts.binds (ps := ["self"]) fun _ _ _ _ _ _ us hl => match us, hl with | [_], _ => rfl
  have D_Type_parts : PrpC l.prog w K mg base C_Type "parts" 15 ["self"] (sp_Type_parts K C_Type) := ⟨_, _, _, ok_Type_parts (P := l.prog) (w := w) (base := base) T D_Type_text F_Type_parts ⟨a_Type_parts, g_Type_parts, t_Type_parts, _, r_Type_parts⟩ B_Type_parts 6, ⟨a_Type_parts, g_Type_parts, t_Type_parts, _, r_Type_parts⟩, B_Type_parts⟩
  have F__law_signed := fun_mk (st := s__law_signed) l__law_signed c__law_signed k__law_signed
  have B__law_signed := F__law_signed.binds (ps := ["_law_kind_here", "_law_is_up"]) fun _ _ _ _ _ _ us hl => match us, hl with | [_, _], _ => rfl
  have D__law_signed : Cal l.prog w K mg base "_law_signed" 7 ["_law_kind_here", "_law_is_up"] (sp__law_signed K) := ⟨_, _, ok__law_signed (P := l.prog) (w := w) (base := base) T F__law_signed (PySem.W.mg_of X G a__law_signed) B__law_signed 6, PySem.W.mg_of X G a__law_signed, k__law_signed, B__law_signed⟩
  have F_Type___contains__ := fun_mk (st := s_Type___contains__) l_Type___contains__ c_Type___contains__ k_Type___contains__
  have B_Type___contains__ := F_Type___contains__.binds (ps := ["self", "x"]) fun _ _ _ _ _ _ us hl => match us, hl with | [_, _], _ => rfl
  have D_Type___contains__ : MetC l.prog w K mg base C_Type "__contains__" 17 ["self", "x"] (sp_Type___contains__ K C_Type) := ⟨_, _, ok_Type___contains__ (P := l.prog) (w := w) (base := base) T D_Type_text D_Type_parts F_Type___contains__, ⟨a_Type___contains__, i_Type___contains__, k_Type___contains__⟩, B_Type___contains__⟩
  have F_Type___iter__ := fun_mk (st := s_Type___iter__) l_Type___iter__ c_Type___iter__ k_Type___iter__
  have B_Type___iter__ := F_Type___iter__.binds (ps := ["self"]) fun _ _ _ _ _ _ us hl => match us, hl with | [_], _ => rfl
  have D_Type___iter__ : MetN l.prog w K mg base C_Type "__iter__" 1 ["self"] (sp_Type___iter__ K C_Type) := ⟨_, _, ok_Type___iter__ (P := l.prog) (w := w) (base := base) T F_Type___iter__, ⟨a_Type___iter__, i_Type___iter__, k_Type___iter__⟩, B_Type___iter__⟩
  have F_Type___len__ := fun_mk (st := s_Type___len__) l_Type___len__ c_Type___len__ k_Type___len__
  have B_Type___len__ := F_Type___len__.binds (ps := ["self"]) fun _ _ _ _ _ _ us hl => match us, hl with | [_], _ => rfl
  have D_Type___len__ : MetC l.prog w K mg base C_Type "__len__" 1 ["self"] (sp_Type___len__ K C_Type) := ⟨_, _, ok_Type___len__ (P := l.prog) (w := w) (base := base) T F_Type___len__, ⟨a_Type___len__, i_Type___len__, k_Type___len__⟩, B_Type___len__⟩
  have F_is_integer := fun_mk (st := s_is_integer) l_is_integer c_is_integer k_is_integer
  have B_is_integer := F_is_integer.binds (ps := ["value"]) fun _ _ _ _ _ _ us hl => match us, hl with | [_], _ => rfl
  have D_is_integer : CalN l.prog w K mg base "is_integer" 1 ["value"] (sp_is_integer K) := ⟨_, _, ok_is_integer (P := l.prog) (w := w) (base := base) T F_is_integer, PySem.W.mg_of X G a_is_integer, k_is_integer, B_is_integer⟩
  have F_Type___getitem__ := fun_mk (st := s_Type___getitem__) l_Type___getitem__ c_Type___getitem__ k_Type___getitem__
  have B_Type___getitem__ := F_Type___getitem__.binds (ps := ["self", "at"]) fun _ _ _ _ _ _ us hl => match us, hl with | [_, _], _ => rfl
  have D_Type___getitem__ : MetC l.prog w K mg base C_Type "__getitem__" 2 ["self", "at"] (sp_Type___getitem__ K C_Type) := ⟨_, _, ok_Type___getitem__ (P := l.prog) (w := w) (base := base) T D_is_integer F_Type___getitem__, ⟨a_Type___getitem__, i_Type___getitem__, k_Type___getitem__⟩, B_Type___getitem__⟩
  have F_Type___str__ := fun_mk (st := s_Type___str__) l_Type___str__ c_Type___str__ k_Type___str__
  have B_Type___str__ := F_Type___str__.binds (ps := ["self"]) fun _ _ _ _ _ _ us hl => match us, hl with | [_], _ => rfl
  have D_Type___str__ : MetC l.prog w K mg base C_Type "__str__" 1 ["self"] (sp_Type___str__ K C_Type) := ⟨_, _, ok_Type___str__ (P := l.prog) (w := w) (base := base) T F_Type___str__, ⟨a_Type___str__, i_Type___str__, k_Type___str__⟩, B_Type___str__⟩
  have F__law_told_right := fun_mk (st := s__law_told_right) l__law_told_right c__law_told_right k__law_told_right
  have B__law_told_right := F__law_told_right.binds (ps := ["_law_made", "_law_kind_here"]) fun _ _ _ _ _ _ us hl => match us, hl with | [_, _], _ => rfl
  have D__law_told_right : Cal l.prog w K mg base "_law_told_right" 18 ["_law_made", "_law_kind_here"] (sp__law_told_right K C_Type) := ⟨_, _, ok__law_told_right (P := l.prog) (w := w) (base := base) T D__law_atoms_of D_Type_atom D_Type_text D_Type_order D_Type_atoms D__law_text D__law_order D_Type_inputs D_Type_plain D__law_parts D_Type_positive D_Type_negative D_Type_parts D__law_signed D_Type___contains__ D_Type___iter__ D_Type___len__ D_Type___getitem__ D_Type___str__ F__law_told_right, PySem.W.mg_of X G a__law_told_right, k__law_told_right, B__law_told_right⟩
  have F_Type___eq__ := fun_mk (st := s_Type___eq__) l_Type___eq__ c_Type___eq__ k_Type___eq__
  have B_Type___eq__ := F_Type___eq__.binds (ps := ["self", "other"]) fun _ _ _ _ _ _ us hl => match us, hl with | [_, _], _ => rfl
  have D_Type___eq__ : MetC l.prog w K mg base C_Type "__eq__" 1 ["self", "other"] (sp_Type_eqX K C_Type) := ⟨_, _, ok_Type___eq__ (P := l.prog) (w := w) (base := base) T F_Type___eq__, ⟨a_Type___eq__, i_Type___eq__, k_Type___eq__⟩, B_Type___eq__⟩
  have F__law_right := fun_mk (st := s__law_right) l__law_right c__law_right k__law_right
  have B__law_right := F__law_right.binds (ps := ["_law_dice_here"]) fun _ _ _ _ _ _ us hl => match us, hl with | [_], _ => rfl
  have D__law_right : Cal l.prog w K mg base "_law_right" 19 ["_law_dice_here"] (sp__law_right K C_Type) := ⟨_, _, ok__law_right (P := l.prog) (w := w) (base := base) T D__law_kind D__law_made_kind D__law_roll D__law_pick D__law_told_right D_Type___init__ D_Type_text D__law_text D_Type_inputs D_Type_atom D_Type___eq__ F__law_right, PySem.W.mg_of X G a__law_right, k__law_right, B__law_right⟩
  have F_law := fun_mk (st := s_law) l_law c_law k_law
  exact ok_law (P := l.prog) (w := w) (base := base) T D_Type_read D__law_dice D_Type_text D_Type_atom D_Type_order D_Type_atoms D_Type_positive D_Type_negative D__law_right D_Type_inputs D_Type_parts D_Type___len__ F_law
end My

open PySem PySem.W PyProof.Rows in
set_option maxRecDepth 100000 in
set_option maxHeartbeats 0 in
theorem PySem.Challenge.cw_fromparts_k03_kinds_told_holds : PySem.Challenge.rw_fromparts_k03_kinds_told.Holds := by
  w_on; o_law; k_head; (case hw => w_witness2)
  k_fill
  refine My.walk_ofG (l := PySem.Challenge.rw_fromparts_k03_kinds_told) (k := 20) (x := "_law_script") (sp := My.sp_law) rfl rfl ⟨rfl, by decide, by decide⟩ (fun w h Y => PySem.W.kIn_of Y) ?F (fun _ _ a ns hl hS => ⟨a, ns, rfl, hS, hl, fun _ => rfl⟩)
  case F =>
    intro w mg fa h KX G hmg
    refine' My.all_mk KX G hmg ?aC_Type ?pg_Type ?hd_Type ?po_Type ?sa_Type ?mk_Type ?kc_Type ?n_inputs_Type ?n_atom_Type ?n_places_Type ?n_order_Type ?n_text_Type ?fst_Type ?nfs_Type ?tyt_Type ?od_NoneType_Type ?nf_NoneType_Type ?od_int_Type ?nf_int_Type ?od_str_Type ?nf_str_Type ?od_tuple_Type ?nf_tuple_Type ?od_list_Type ?nf_list_Type ?od_dict_Type ?nf_dict_Type ?ne_Type ?un_Type ?cl1_Type ?cl2_Type ?cl3_Type ?cl4_Type ?rd_Type ?ga_Type ?a__pieces ?l__pieces ?c__pieces ?k__pieces ?a__is_tuple_of_types ?l__is_tuple_of_types ?c__is_tuple_of_types ?k__is_tuple_of_types ?a_is_word ?l_is_word ?c_is_word ?k_is_word ?a_Type_order ?g_Type_order ?t_Type_order ?r_Type_order ?l_Type_order ?c_Type_order ?k_Type_order ?a_Type_inputs ?g_Type_inputs ?t_Type_inputs ?r_Type_inputs ?l_Type_inputs ?c_Type_inputs ?k_Type_inputs ?a_Type_text ?g_Type_text ?t_Type_text ?r_Type_text ?l_Type_text ?c_Type_text ?k_Type_text ?a__text_inside ?l__text_inside ?c__text_inside ?k__text_inside ?a_Type___init__ ?i_Type___init__ ?l_Type___init__ ?c_Type___init__ ?k_Type___init__ ?a_Type_plain ?r_Type_plain ?fi_Type_plain ?l_Type_plain ?c_Type_plain ?k_Type_plain ?a__read_freely ?l__read_freely ?c__read_freely ?k__read_freely ?a__read_piece ?l__read_piece ?c__read_piece ?k__read_piece ?a_Type_read ?r_Type_read ?fi_Type_read ?l_Type_read ?c_Type_read ?k_Type_read ?a__law_dice ?l__law_dice ?c__law_dice ?k__law_dice ?a_Type_atom ?g_Type_atom ?t_Type_atom ?r_Type_atom ?l_Type_atom ?c_Type_atom ?k_Type_atom ?a_Type_atoms ?g_Type_atoms ?t_Type_atoms ?r_Type_atoms ?l_Type_atoms ?c_Type_atoms ?k_Type_atoms ?a_Type_positive ?g_Type_positive ?t_Type_positive ?r_Type_positive ?l_Type_positive ?c_Type_positive ?k_Type_positive ?a_Type_negative ?g_Type_negative ?t_Type_negative ?r_Type_negative ?l_Type_negative ?c_Type_negative ?k_Type_negative ?a__law_roll ?l__law_roll ?c__law_roll ?k__law_roll ?a__law_pick ?l__law_pick ?c__law_pick ?k__law_pick ?a__law_atoms_of ?l__law_atoms_of ?c__law_atoms_of ?k__law_atoms_of ?a__law_kind ?l__law_kind ?c__law_kind ?k__law_kind ?a__law_made_kind ?l__law_made_kind ?c__law_made_kind ?k__law_made_kind ?a__law_text ?l__law_text ?c__law_text ?k__law_text ?a__law_order ?l__law_order ?c__law_order ?k__law_order ?a__law_parts ?l__law_parts ?c__law_parts ?k__law_parts ?a_Type_parts ?g_Type_parts ?t_Type_parts ?r_Type_parts ?l_Type_parts ?c_Type_parts ?k_Type_parts ?a__law_signed ?l__law_signed ?c__law_signed ?k__law_signed ?a_Type___contains__ ?i_Type___contains__ ?l_Type___contains__ ?c_Type___contains__ ?k_Type___contains__ ?a_Type___iter__ ?i_Type___iter__ ?l_Type___iter__ ?c_Type___iter__ ?k_Type___iter__ ?a_Type___len__ ?i_Type___len__ ?l_Type___len__ ?c_Type___len__ ?k_Type___len__ ?a_is_integer ?l_is_integer ?c_is_integer ?k_is_integer ?a_Type___getitem__ ?i_Type___getitem__ ?fi_Type___getitem__ ?l_Type___getitem__ ?c_Type___getitem__ ?k_Type___getitem__ ?a_Type___str__ ?i_Type___str__ ?l_Type___str__ ?c_Type___str__ ?k_Type___str__ ?a__law_told_right ?l__law_told_right ?c__law_told_right ?k__law_told_right ?a_Type___eq__ ?i_Type___eq__ ?l_Type___eq__ ?c_Type___eq__ ?k_Type___eq__ ?a__law_right ?l__law_right ?c__law_right ?k__law_right ?a_law ?l_law ?c_law ?k_law ?z_RuntimeError ?z_ValueError ?z_abs ?z_all ?z_bool ?z_classmethod ?z_dict ?z_int ?z_isinstance ?z_iter ?z_len ?z_list ?z_max ?z_min ?z_property ?z_range ?z_set ?z_sorted ?z_str ?z_tuple ?g_MAX_LETTERS ?g_MAX_PLACES ?g_MAX_ORDER ?g__ARROW
    (case aC_Type => k_is)
    (case pg_Type => k_is)
    (case hd_Type => k_is)
    (case po_Type => k_is)
    (case sa_Type => k_is)
    (case mk_Type => k_is)
    (case kc_Type => k_is)
    (case n_inputs_Type => k_is)
    (case n_atom_Type => k_is)
    (case n_places_Type => k_is)
    (case n_order_Type => k_is)
    (case n_text_Type => k_is)
    (case fst_Type => k_is)
    (case nfs_Type => k_is)
    (case tyt_Type => k_is)
    (case od_NoneType_Type => k_is)
    (case nf_NoneType_Type => k_is)
    (case od_int_Type => k_is)
    (case nf_int_Type => k_is)
    (case od_str_Type => k_is)
    (case nf_str_Type => k_is)
    (case od_tuple_Type => k_is)
    (case nf_tuple_Type => k_is)
    (case od_list_Type => k_is)
    (case nf_list_Type => k_is)
    (case od_dict_Type => k_is)
    (case nf_dict_Type => k_is)
    (case ne_Type => k_is)
    (case un_Type => k_is)
    (case cl1_Type => k_is)
    (case cl2_Type => k_is)
    (case cl3_Type => k_is)
    (case cl4_Type => k_is)
    (case rd_Type => k_is)
    (case ga_Type => k_is)
    (case a__pieces => k_is)
    (case l__pieces => k_is)
    (case c__pieces => k_is)
    (case k__pieces => k_is)
    (case a__is_tuple_of_types => k_is)
    (case l__is_tuple_of_types => k_is)
    (case c__is_tuple_of_types => k_is)
    (case k__is_tuple_of_types => k_is)
    (case a_is_word => k_is)
    (case l_is_word => k_is)
    (case c_is_word => k_is)
    (case k_is_word => k_is)
    (case a_Type_order => k_is)
    (case g_Type_order => k_is)
    (case t_Type_order => k_is)
    (case r_Type_order => k_is)
    (case l_Type_order => k_is)
    (case c_Type_order => k_is)
    (case k_Type_order => k_is)
    (case a_Type_inputs => k_is)
    (case g_Type_inputs => k_is)
    (case t_Type_inputs => k_is)
    (case r_Type_inputs => k_is)
    (case l_Type_inputs => k_is)
    (case c_Type_inputs => k_is)
    (case k_Type_inputs => k_is)
    (case a_Type_text => k_is)
    (case g_Type_text => k_is)
    (case t_Type_text => k_is)
    (case r_Type_text => k_is)
    (case l_Type_text => k_is)
    (case c_Type_text => k_is)
    (case k_Type_text => k_is)
    (case a__text_inside => k_is)
    (case l__text_inside => k_is)
    (case c__text_inside => k_is)
    (case k__text_inside => k_is)
    (case a_Type___init__ => k_is)
    (case i_Type___init__ => k_is)
    (case l_Type___init__ => k_is)
    (case c_Type___init__ => k_is)
    (case k_Type___init__ => k_is)
    (case a_Type_plain => k_is)
    (case r_Type_plain => k_is)
    (case fi_Type_plain => k_is)
    (case l_Type_plain => k_is)
    (case c_Type_plain => k_is)
    (case k_Type_plain => k_is)
    (case a__read_freely => k_is)
    (case l__read_freely => k_is)
    (case c__read_freely => k_is)
    (case k__read_freely => k_is)
    (case a__read_piece => k_is)
    (case l__read_piece => k_is)
    (case c__read_piece => k_is)
    (case k__read_piece => k_is)
    (case a_Type_read => k_is)
    (case r_Type_read => k_is)
    (case fi_Type_read => k_is)
    (case l_Type_read => k_is)
    (case c_Type_read => k_is)
    (case k_Type_read => k_is)
    (case a__law_dice => k_is)
    (case l__law_dice => k_is)
    (case c__law_dice => k_is)
    (case k__law_dice => k_is)
    (case a_Type_atom => k_is)
    (case g_Type_atom => k_is)
    (case t_Type_atom => k_is)
    (case r_Type_atom => k_is)
    (case l_Type_atom => k_is)
    (case c_Type_atom => k_is)
    (case k_Type_atom => k_is)
    (case a_Type_atoms => k_is)
    (case g_Type_atoms => k_is)
    (case t_Type_atoms => k_is)
    (case r_Type_atoms => k_is)
    (case l_Type_atoms => k_is)
    (case c_Type_atoms => k_is)
    (case k_Type_atoms => k_is)
    (case a_Type_positive => k_is)
    (case g_Type_positive => k_is)
    (case t_Type_positive => k_is)
    (case r_Type_positive => k_is)
    (case l_Type_positive => k_is)
    (case c_Type_positive => k_is)
    (case k_Type_positive => k_is)
    (case a_Type_negative => k_is)
    (case g_Type_negative => k_is)
    (case t_Type_negative => k_is)
    (case r_Type_negative => k_is)
    (case l_Type_negative => k_is)
    (case c_Type_negative => k_is)
    (case k_Type_negative => k_is)
    (case a__law_roll => k_is)
    (case l__law_roll => k_is)
    (case c__law_roll => k_is)
    (case k__law_roll => k_is)
    (case a__law_pick => k_is)
    (case l__law_pick => k_is)
    (case c__law_pick => k_is)
    (case k__law_pick => k_is)
    (case a__law_atoms_of => k_is)
    (case l__law_atoms_of => k_is)
    (case c__law_atoms_of => k_is)
    (case k__law_atoms_of => k_is)
    (case a__law_kind => k_is)
    (case l__law_kind => k_is)
    (case c__law_kind => k_is)
    (case k__law_kind => k_is)
    (case a__law_made_kind => k_is)
    (case l__law_made_kind => k_is)
    (case c__law_made_kind => k_is)
    (case k__law_made_kind => k_is)
    (case a__law_text => k_is)
    (case l__law_text => k_is)
    (case c__law_text => k_is)
    (case k__law_text => k_is)
    (case a__law_order => k_is)
    (case l__law_order => k_is)
    (case c__law_order => k_is)
    (case k__law_order => k_is)
    (case a__law_parts => k_is)
    (case l__law_parts => k_is)
    (case c__law_parts => k_is)
    (case k__law_parts => k_is)
    (case a_Type_parts => k_is)
    (case g_Type_parts => k_is)
    (case t_Type_parts => k_is)
    (case r_Type_parts => k_is)
    (case l_Type_parts => k_is)
    (case c_Type_parts => k_is)
    (case k_Type_parts => k_is)
    (case a__law_signed => k_is)
    (case l__law_signed => k_is)
    (case c__law_signed => k_is)
    (case k__law_signed => k_is)
    (case a_Type___contains__ => k_is)
    (case i_Type___contains__ => k_is)
    (case l_Type___contains__ => k_is)
    (case c_Type___contains__ => k_is)
    (case k_Type___contains__ => k_is)
    (case a_Type___iter__ => k_is)
    (case i_Type___iter__ => k_is)
    (case l_Type___iter__ => k_is)
    (case c_Type___iter__ => k_is)
    (case k_Type___iter__ => k_is)
    (case a_Type___len__ => k_is)
    (case i_Type___len__ => k_is)
    (case l_Type___len__ => k_is)
    (case c_Type___len__ => k_is)
    (case k_Type___len__ => k_is)
    (case a_is_integer => k_is)
    (case l_is_integer => k_is)
    (case c_is_integer => k_is)
    (case k_is_integer => k_is)
    (case a_Type___getitem__ => k_is)
    (case i_Type___getitem__ => k_is)
    (case fi_Type___getitem__ => k_is)
    (case l_Type___getitem__ => k_is)
    (case c_Type___getitem__ => k_is)
    (case k_Type___getitem__ => k_is)
    (case a_Type___str__ => k_is)
    (case i_Type___str__ => k_is)
    (case l_Type___str__ => k_is)
    (case c_Type___str__ => k_is)
    (case k_Type___str__ => k_is)
    (case a__law_told_right => k_is)
    (case l__law_told_right => k_is)
    (case c__law_told_right => k_is)
    (case k__law_told_right => k_is)
    (case a_Type___eq__ => k_is)
    (case i_Type___eq__ => k_is)
    (case l_Type___eq__ => k_is)
    (case c_Type___eq__ => k_is)
    (case k_Type___eq__ => k_is)
    (case a__law_right => k_is)
    (case l__law_right => k_is)
    (case c__law_right => k_is)
    (case k__law_right => k_is)
    (case a_law => k_is)
    (case l_law => k_is)
    (case c_law => k_is)
    (case k_law => k_is)
    (case z_RuntimeError => k_is)
    (case z_ValueError => k_is)
    (case z_abs => k_is)
    (case z_all => k_is)
    (case z_bool => k_is)
    (case z_classmethod => k_is)
    (case z_dict => k_is)
    (case z_int => k_is)
    (case z_isinstance => k_is)
    (case z_iter => k_is)
    (case z_len => k_is)
    (case z_list => k_is)
    (case z_max => k_is)
    (case z_min => k_is)
    (case z_property => k_is)
    (case z_range => k_is)
    (case z_set => k_is)
    (case z_sorted => k_is)
    (case z_str => k_is)
    (case z_tuple => k_is)
    (case g_MAX_LETTERS => k_is)
    (case g_MAX_PLACES => k_is)
    (case g_MAX_ORDER => k_is)
    (case g__ARROW => k_is)
