import PyProof.Rows.All
import Wide.All
import OpenK.AllK
import Wide.FinOn
import HandS.ForMost
import HandS.IsInst
import HandS.Steps
import HandS.Property
import HandS.ClsMeth
import HandS.FStr
import PyProof.ListStr
import PyProof.CallFns
import PyProof.Rows.RuleB_pow
import PyProof.StrLawsTight
import PyProof.FitsReplace
import KE.KOpsOwn
import OpenK.KMeth
import HandS.RaiseMore
import KE.KCallOwn
import HandS.TryMany
import HandS.TryOnly
import HandS.Lambda
import HandS.SetFor
import KE.DatumOrd
import KE.DatumMoreOrd
import PyProof.RowDictHeap
import PyProof.ReprRoads
import HandS.Dict
import PyProof.ExcBaseAll.ValueError
import PyProof.ExcBaseAll.LookupError
import PyProof.ExcBaseAll.IndexError
import PyProof.ExcBaseAll.OverflowError
import PyProof.ExcBaseAll.ArithmeticError
import PyProof.ExcBaseAll.RuntimeError
import KE.KExcInit
import KE.KExcMore
import KE.KExcIs
import HandS.ExcInit
import HandS.ExcField
import HandS.ExcIs
import HandS.ExcValue
import HandS.DictComp
import HandS.Iter
import HandS.WordsExc
import HandS.EndTab
import KE.KNestM
import KE.KLam
import PyProof.NeKinds
import PyProof.MeetsIn
import PyProof.FactsAll.dict_2
import HandS.SetTxt0
import HandS.Strs
import HandS.IterVal
import KE.KOwnIter
import HandS.TupAny
import HandS.More
import HandS.Style
import PyProof.Rows.RegReprOcc
import KE.KxAffix
import KE.KxText
import HandS.Conv
import PyProof.P3Eq
import HandS.Comp
import HandS.Exc
import HandS.ExcCtx
import HandS.ExcOwn
import KE.KTryMore
import HandS.HotCalls
import HandS.RaiseFrom
import HandS.SuiteRaise
import HandS.ExcInitHot
import PyProof.StrLaws
import HandS.WordsDict
import HandS.ListItems
import PySem.Challenge.RW_fromparts_k07_errors_of_kinds
set_option Elab.async false
set_option linter.all false
set_option maxRecDepth 100000
set_option maxHeartbeats 2000000
namespace My
open PySem PySem.Spec PyProof.Rows L2 TL
/-! ### defs called where no repr is under way: what A.guards says is handed down -/
structure FnOkG (P : Program) (w : World) (K : PySem.W.Frag) (mg : Str → Option Value) (base : Heap) (CX : CXT) (k : Nat) (f : Addr) (fd : FuncData) (ps : List Str) (sp : Sp) : Prop where
  arity : ∀ vs H Q E, sp vs H Q E → vs.length = ps.length
  go : ∀ (B : Around) (fr : List Env) (t : Shared) (H : Hp) (ar : Args) (us : List Value) (vs : List V) (Q : VK) (E : XK), Room k B → B.guards = some [] → Env0 P w K mg base B fr t H → BindsTo t fd ar (ps.zip us) → Vals vs us → sp vs H Q E →
    codeAny (model P w) B (.call (.ref f) ar) (CR CX fr P w H t Q E) t
theorem FnOkG.lift {P : Program} {w : World} {K : PySem.W.Frag} {mg : Str → Option Value} {base : Heap} {CX : CXT} {k : Nat} {f : Addr} {fd : FuncData} {ps : List Str} {sp : Sp}
    (F : FnOk P w K mg base CX k f fd ps sp) : FnOkG P w K mg base CX k f fd ps sp := ⟨F.len, fun B fr t H ar us vs Q E hr _ => F.run B fr t H ar us vs Q E hr⟩
section
variable {P : Program} {w : World} {K : PySem.W.Frag} {mg : Str → Option Value} {base : Heap}
theorem _root_.L2.Fun.okG {CX : CXT} {x qual : Str} {st : Stmt} {f : Addr} {fd : FuncData} {N ps : List Str} {k : Nat} {sp : Sp} (F : Fun K x qual st f fd) (S : FnScope N ps (defScope st)) (ar : ∀ vs H Q E, sp vs H Q E → vs.length = ps.length)
    (body : ∀ (cv : Value) (B : Around) (fr : List Env) (t : Shared) (H : Hp) (vs : List V) (Q : VK) (E : XK), Room k (B.deeper (envOfC qual (defScope st) t.heap.objs.size f cv)) → (B.deeper (envOfC qual (defScope st) t.heap.objs.size f cv)).guards = some [] → sp vs H Q E →
      ∃ r, PSs (cxOf CX P w K mg base N qual (defScope st) f cv B fr t H E).nox (defBody st) r ∧ r { nx := fun _ H' => Q .non H', rt := Q } (start N vs) H) : FnOkG P w K mg base CX (k + 1) f fd ps sp := by
  obtain ⟨oc, od, kV, doc, pm, an, cv, ct, osl, rfl, found, isCode⟩ := F.ex
  refine ⟨ar, fun B fr t H args us vs Q E room still env binds vals wish => ?_⟩
  have there : K.In t.heap := env.mod.kin.keeps (fun b o e => (env.bs b o e).1)
  have noLim : t.heap.NoLimit := env.mod.nolimit.keeps (fun b o e => (env.bs b o e).1)
  have kinds : ∀ y ∈ ps.zip us, (defScope st).names.lookup y.1 = some .local ∨ ((defScope st).names.lookup y.1 = some .cell ∧ ((cellsFrom (t.heap.objs.size + 1) (defScope st).names []).lookup y.1).isSome = true) := by
    rintro ⟨n, v⟩ hy
    exact (S.par n (List.of_mem_zip hy).1).imp id fun q => ⟨q, PySem.W.cellsFrom_some _ _ _ (.inl q)⟩
  refine codeAny_call_function room.depth (there _ _ found)
    rfl S.co S.gen rfl (PySem.W.codeRec_of there isCode) (binds _ _ _ _
      (wpAny_newFunctionEnv_cells S.kind kinds fun env' eq t1 start1 => ?_))
  subst eq
  refine ⟨noLim.keeps start1.toInCall.keep, codeAny_func ?_⟩
  obtain ⟨r, runs, ends⟩ := body cv B fr t H vs Q E (room.deeper _) still wish
  refine wpAny_mono (runs.nox.run [] t1 (start N vs) H _ (inv_start S room.hd env (ar _ _ _ _ wish) vals start1) ends) ?_ fun _ _ z => z
  intro fl t2 got
  cases fl with
  | ret u =>
    obtain ⟨v, σ', H', J, rv, q⟩ := got
    exact ⟨v, H', J.os, J.bare, J.base, J.hok, rv, q⟩
  | next =>
    obtain ⟨σ', H', J, q⟩ := got
    exact ⟨V.non, H', J.os, J.bare, J.base, J.hok, rfl, q⟩
  | brk => exact got.choose_spec.choose_spec.2.elim
  | cont => exact got.choose_spec.choose_spec.2.elim
end
/-! ### defs by their promises -/
structure Cal (P : Program) (w : World) (K : PySem.W.Frag) (mg : Str → Option Value) (base : Heap) (x : Str) (k : Nat) (ps : List Str) (sp : Sp) : Prop where
  ex : ∃ f fd, FnOkG P w K mg base CX0 k f fd ps sp ∧ mg x = some (.ref f) ∧ PySem.W.keepIn K (.ref f) = true ∧ Binds K fd ps []
theorem Cal.of {P : Program} {w : World} {K : PySem.W.Frag} {mg : Str → Option Value} {base : Heap} {x q : Str} {k : Nat} {ps : List Str} {sp : Sp} {st : Stmt} {f : Addr} {fd : FuncData}
    (F : Fun K x q st f fd) (hm : mg x = some (.ref f)) (hb : Binds K fd ps []) (ok : FnOkG P w K mg base CX0 k f fd ps sp) : Cal P w K mg base x k ps sp := ⟨f, fd, ok, hm, F.kp, hb⟩
section
variable {X : Cx} {k : Nat} {f : Addr} {fd : FuncData} {ps : List Str} {sp : Sp} {ds : List Value} {dvs : List V} {E : XK} {CX : CXT}
/-- the callee runs, no repr under way -/
theorem run_fnG {pins : List (Addr × Obj)} {σ : L2.St} {H : Hp} {s : Shared} {Q : VK} {us : List Value} {vs : List V} (F : FnOkG X.prog X.w X.K X.mg X.base CX k f fd ps sp) (room : Room k X.A) (still : X.A.guards = some [])
    (binds : Binds X.K fd ps ds) (dv : Vals dvs ds) (pass : Passes CX X E) (I : Inv X pins σ H s) (rel : Vals vs us) (wish : sp (vs ++ dvs) H Q E) : wpAny (model X.prog X.w) X.A (call (.ref f) us) (EP X pins σ Q) X.xe s := by
  have both := rel.append dv
  have len : (us ++ ds).length = ps.length := both.length.symm.trans (F.arity _ _ _ _ wish)
  have ran := F.go X.A X.stack s H ⟨us, []⟩ (us ++ ds) (vs ++ dvs) Q E room still I.env0 (binds s us I.kIn len) both wish
  refine wpAny_call (codeAny_mono ran ?_)
  intro r s' h
  match r, h with
  | .error e, h => exact pass pins σ H s e s' I h
  | .ok (.ret u), h => exact I.after h
  | .ok .next, h => exact False.elim h
  | .ok .brk, h => exact False.elim h
  | .ok .cont, h => exact False.elim h
end
section
variable {X : Cx} {x : Str} {k : Nat} {ps : List Str} {sp : Sp} {e : Expr} {es : List Expr} {t : TA} {p pos : Pos}
theorem pe_callC (C : Cal X.prog X.w X.K X.mg X.base x k ps sp) (room : Room k X.A) (still : X.A.guards = some []) (hg : Gl X x) (ha : PA X (e :: es) t) (hdb : (x == ("__debug__" : Str)) = false := by decide)
    (he : starEach (e :: es) X.env = (false, eval e X.env) :: starEach es X.env := by rfl) (hpl : (backTo pos (starEach es X.env)).any (·.1) = false := by rfl) :
    PE X (.Call (.Name x p) (e :: es) [] pos) (tCall sp [] E0 t) := by
  obtain ⟨f, fd, ok, hm, kp, hb⟩ := C.ex
  refine ⟨fun pins s σ H Q I h => wpAny_Call_Name_kw (ld_glob I hg hm ?_ hdb)⟩
  have args := thn (ha.run pos pins s σ H _ I h) (Q' := fun us s1 => X.K.In s1.heap ∧ wpAny (model X.prog X.w) X.A (call (.ref f) us) (EP X pins σ Q) X.xe s1) fun us s1 ⟨vs, H1, I1, r, q⟩ =>
    ⟨I1.kIn, run_fnG ok room still hb .nil pass0 I1 r q⟩
  exact PySem.W.callWith_K (h₀ := X.base) I.ok.mod.kin kp args he hpl
theorem pe_globE {x : Str} {v : V} (hg : Gl X x) (h : ∃ u, X.mg x = some u ∧ RelV v u) (hd : (x == ("__debug__" : Str)) = false := by decide) : PE X (.Name x pos) (tC v) := by
  obtain ⟨u, hm, r⟩ := h
  exact pe_glob hg hm r hd
theorem op_powW : OpR X (binaryOp .Pow) (rI (fun i j => 0 ≤ j ∧ (Builtin.Int.intBits i : Int) * j ≤ 2 ^ 27) fun i j => .int (i ^ j.toNat)) := opI fun _ _ _ _ _ _ _ hc q => PyProof.Rows.pow_int hc.1 hc.2 q
theorem call_repr_bl : CallR X (.builtin "repr") (fun xs H Q => ∃ b, xs = [.bl b] ∧ Q (.str (if b then "True" else "False")) H) := by
  intro pins s σ H xs us Q I r h
  obtain ⟨b, rfl, q⟩ := h
  obtain ⟨u, rfl, r1⟩ := vals1 r
  cases r1
  exact PySem.P.repr_of_bool ⟨.str _, H, I.tok _, ⟨_, rfl⟩, q⟩
def sgnV (x : Str) : List V := x.cps.toList.map fun c => V.str ⟨#[c]⟩
theorem vals_signs : ∀ (l : List Nat) (ys : List Value), ys.length = l.length → (∀ (j : Nat) (v : Value), ys[j]? = some v → ∃ c u, l[j]? = some c ∧ v = .str ⟨#[c]⟩ u) → Vals (l.map fun c => V.str ⟨#[c]⟩) ys
  | [], [], _, _ => .nil
  | [], _ :: _, h, _ => by simp at h
  | _ :: _, [], h, _ => by simp at h
  | c :: l, y :: ys, h, f => by
    obtain ⟨c', u, e1, e2⟩ := f 0 y rfl
    have e3 : c = c' := Option.some.inj e1
    subst e3
    exact .cons ⟨u, e2⟩ (vals_signs l ys (by simpa using h) fun j v e => f (j + 1) v e)
theorem call_list_text (hc : X.calm = true) : CallR X (.type "list") (fun xs H Q => ∃ x : Str, xs = [.str x] ∧ x.length ≤ sizeLine ∧ ∀ l, H l = none → Q (.ref l) (upd H l (.lst (sgnV x)))) := by
  intro pins s σ H xs us Q I r h
  obtain ⟨x, rfl, hz, q⟩ := h
  obtain ⟨u, rfl, t, rfl⟩ := vals1 r
  refine call_list_str (hn := hz) (I.ok.hd hc) x t fun h' tk acc' c' hk hS' hacc => ?_
  have hv : Vals (sgnV x) acc'.toList := vals_signs _ _ (by simp [hacc.1]) fun j v e => by
    obtain ⟨c, u, h1, h2⟩ := hacc.2 j v (by simpa using e)
    exact ⟨c, u, by simpa using h1, h2⟩
  exact ⟨.ref s.heap.objs.size, _, I.laid (t' := tk) hk (Nat.le_refl _) (show ObjOk X.prog X.w _ h' _ (.lst (sgnV x)) from ⟨by simp [sgnV]; exact hz, acc'.toList, c', hv, by simpa using hS'⟩), rfl, q _ (I.hok.fresh (Nat.le_refl _))⟩
end
/-! ### heaps: all stands but the dice -/
def Ext (d : Addr) (H H' : Hp) : Prop := ∀ a o, a ≠ d → H a = some o → H' a = some o
theorem Ext.refl {d : Addr} (H : Hp) : Ext d H H := fun _ _ _ h => h
theorem Ext.trans {d : Addr} {H H1 H2 : Hp} (a : Ext d H H1) (b : Ext d H1 H2) : Ext d H H2 := fun x o n h => b x o n (a x o n h)
theorem Ext.new {d : Addr} {H H1 : Hp} (a : Ext d H H1) {p : Addr} {o : HO} (h : H1 p = none) : Ext d H (upd H1 p o) := fun x u n e => by
  rw [upd_ne (ne_of_none (a x u n e) h)]
  exact a x u n e
theorem Ext.same {d : Addr} {H H' : Hp} (h : Same H H') : Ext d H H' := fun a o _ e => h a o e
theorem Ext.set {d : Addr} {H : Hp} {o : HO} : Ext d H (upd H d o) := fun a u n e => by
  rw [upd_ne n]
  exact e
theorem Ext.mut {d : Addr} {H H1 : Hp} (a : Ext d H H1) {p : Addr} {o : HO} (h : H p = none) : Ext d H (upd H1 p o) := fun x u n e => by
  rw [upd_ne (ne_of_none e h)]
  exact a x u n e
theorem Ext.none {d : Addr} {H H' : Hp} (e : Ext d H H') {l : Addr} (n : l ≠ d) (h : H' l = Option.none) : H l = Option.none := by
  cases q : H l with
  | none => rfl
  | some o =>
    rw [e l o n q] at h
    cases h
theorem _root_.L2.Same.new {H H1 : Hp} (a : Same H H1) {p : Addr} {o : HO} (h : H1 p = none) : Same H (upd H1 p o) := fun x u e => by
  rw [upd_ne (ne_of_none (a x u e) h)]
  exact a x u e
theorem _root_.L2.Same.mut {H H1 : Hp} (a : Same H H1) {p : Addr} {o : HO} (h : H p = none) : Same H (upd H1 p o) := fun x u e => by
  rw [upd_ne (ne_of_none e h)]
  exact a x u e
def IsDice (H : Hp) (d : Addr) : Prop := ∃ a b c : Int, H d = some (.lst [.int a, .int b, .int c])
theorem IsDice.some {H : Hp} {d : Addr} (h : IsDice H d) : ∃ o, H d = Option.some o := ⟨_, h.choose_spec.choose_spec.choose_spec⟩
theorem IsDice.ne {H : Hp} {d l : Addr} (h : IsDice H d) (n : H l = none) : l ≠ d := by
  obtain ⟨o, e⟩ := h.some
  exact fun z => by
    rw [z, e] at n
    cases n
theorem IsDice.new {H : Hp} {d p : Addr} {o : HO} (h : IsDice H d) (n : H p = none) : IsDice (upd H p o) d := by
  have hn := h.ne n
  obtain ⟨a, b, c, e⟩ := h
  exact ⟨a, b, c, by rw [upd_ne hn.symm]; exact e⟩
theorem IsDice.mut {H : Hp} {d p : Addr} {o : HO} (h : IsDice H d) (n : p ≠ d) : IsDice (upd H p o) d := by
  obtain ⟨a, b, c, e⟩ := h
  exact ⟨a, b, c, by rw [upd_ne n.symm]; exact e⟩
theorem IsDice.same {H H' : Hp} {d : Addr} (h : IsDice H d) (s : Same H H') : IsDice H' d := by
  obtain ⟨a, b, c, e⟩ := h
  exact ⟨a, b, c, s _ _ e⟩
/-- where lists stand -/
theorem sql_ext {K : PySem.W.Frag} {H H' : Hp} {d a : Addr} {xs : List V} (e : Ext d H H') (n : a ≠ d) (h : SqL K H a xs) : SqL K H' a xs := by
  rcases h with (h | ⟨o, h⟩) | h
  · exact .inl (.inl (e _ _ n h))
  · exact .inl (.inr ⟨o, e _ _ n h⟩)
  · exact .inr h
theorem lt_line {n : Nat} (h : n ≤ 1000000) : n ≤ sizeLine := Nat.le_trans h (by decide)
theorem lt_line' {n : Nat} (h : n < 1000000) : n < sizeLine := Nat.lt_of_lt_of_le h (by decide)
/-! ### the dice's promises -/
/-- a new dice; the list of the script, an index -/
def sp__law_dice (K : PySem.W.Frag) : Sp := fun vs H Q _ => ∃ (a : Addr) (ns : List Int) (i : Int), vs = [.ref a, .int i] ∧ SqL K H a (ns.map V.int) ∧ 0 ≤ i ∧ i < 64 ∧
  ∀ d o, H d = none → IsDice (upd H d o) d → Q (.ref d) (upd H d o)
def sp__law_roll (_ : PySem.W.Frag) : Sp := fun vs H Q _ => ∃ (d : Addr) (n : Int), vs = [.ref d, .int n] ∧ IsDice H d ∧ 0 < n ∧ n < 1073741824 ∧
  ∀ r H', 0 ≤ r → r < n → Ext d H H' → IsDice H' d → Q (.int r) H'
def sp__law_pick (K : PySem.W.Frag) : Sp := fun vs H Q _ => ∃ (d l : Addr) (xs : List V), vs = [.ref d, .ref l] ∧ IsDice H d ∧ SqL K H l xs ∧ l ≠ d ∧ xs ≠ [] ∧ xs.length < 1000000 ∧
  ∀ x H', x ∈ xs → Ext d H H' → IsDice H' d → Q x H'
def sp__law_some (K : PySem.W.Frag) : Sp := fun vs H Q _ => ∃ (d l : Addr) (xs : List V) (n : Int), vs = [.ref d, .ref l, .int n] ∧ IsDice H d ∧ SqL K H l xs ∧ l ≠ d ∧ xs.length < 1000000 ∧ 0 ≤ n ∧
  ∀ p ys H', (∀ y ∈ ys, y ∈ xs) → ys.length ≤ xs.length → H p = none → p ≠ d → H' p = some (.lst ys) → Ext d H H' → IsDice H' d → Q (.ref p) H'
/-! ### a comprehension over a text -/
theorem lc_txt {x : Str} {g : TG} {tt : TT} {te : TE} {vs : List Nat} {σ : L2.St} {H1 : Hp} {D : Addr} {Qd : Hp → Prop} (Pv : Nat → Hp → Prop) (h0 : Pv 0 (upd H1 D (.lst [])))
    (hs : ∀ i c H, x.cps.toList[i]? = some c → Pv i H → g (.str ⟨#[c]⟩) (wipe σ vs) H fun σ2 H2 => wipe σ2 vs = wipe σ vs ∧ tt σ2 H2 fun b H3 =>
      if b = true then te σ2 H3 fun y H4 => ∃ acc, H4 D = some (.lst acc) ∧ acc.length < sizeLine ∧ Pv (i + 1) (upd H4 D (.lst (acc ++ [y]))) else Pv (i + 1) H3) (hd : ∀ H, Pv x.cps.toList.length H → Qd H) :
    ∃ W : Nat → Nat → Hp → Prop, (∃ m, W 0 m (upd H1 D (.lst []))) ∧ ∀ i m H, W i m H →
      ((Its x).stop i H ∧ Qd H) ∨ ((Its x).go i H ∧ ∃ Nx : Hp → Prop, (∀ H', Nx H' → ∃ m', m' < m ∧ W (i + 1) m' H') ∧ ∀ v H', (Its x).yld i H v H' → g v (wipe σ vs) H' fun σ2 H2 => wipe σ2 vs = wipe σ vs ∧ tt σ2 H2 fun b H3 =>
        if b = true then te σ2 H3 fun y H4 => ∃ acc, H4 D = some (.lst acc) ∧ acc.length < sizeLine ∧ Nx (upd H4 D (.lst (acc ++ [y]))) else Nx H3) := by
  refine ⟨fun i m H => m = x.cps.size - i ∧ i ≤ x.cps.size ∧ Pv i H, ⟨x.cps.size, by simp, Nat.zero_le _, h0⟩, ?_⟩
  rintro i m H ⟨rfl, hi, p⟩
  by_cases hlt : i < x.cps.size
  · refine .inr ⟨hlt, Pv (i + 1), fun H' p' => ⟨x.cps.size - (i + 1), by omega, rfl, hlt, p'⟩, fun v H' y => ?_⟩
    obtain ⟨e, c, ec, ev⟩ := y
    subst e ev
    exact hs i c _ (by simpa using ec) p
  · have e : i = x.cps.size := by omega
    exact .inl ⟨by show x.cps.size ≤ i; omega, hd H (by rw [e] at p; simpa using p)⟩
/-- flat data -/
theorem shaped_flat {ds : List PyData} (h : ∀ d ∈ ds, d.canLay0 = true ∧ d.depth = 0) : SeqAt.shaped (.list ds) = true ∧ SeqAt.shaped (.tuple ds) = true := by
  have a : ∀ ds : List PyData, (∀ d ∈ ds, d.canLay0 = true ∧ d.depth = 0) → PyData.canLayAll0 ds = true ∧ PyData.depthAll ds = 0 := by
    intro ds
    induction ds with
    | nil => intro _; exact ⟨rfl, rfl⟩
    | cons d r ih =>
      intro h
      have h1 := h d (List.mem_cons_self ..)
      have h2 := ih fun x hx => h x (List.mem_cons_of_mem _ hx)
      exact ⟨by rw [PyData.canLayAll0, h1.1, h2.1]; rfl, by rw [PyData.depthAll, h1.2, h2.2]; rfl⟩
  obtain ⟨a1, a2⟩ := a ds h
  constructor <;> (unfold SeqAt.shaped; rw [PyData.canLay0, PyData.depth, a1, a2]; rfl)
theorem strOk_ascii {x : Str} (h : ∀ c ∈ x.cps.toList, c < 128) : PyData.strOk x = true := by
  unfold PyData.strOk
  rw [← Array.all_toList]
  exact List.all_eq_true.mpr fun c hc => by
    have := h c hc
    simp
    omega
/-! ### comprehensions whose parts speak of the place where they stand -/
section
variable {X : Cx}
abbrev Dep (α : Type) := Shared → Hp → Addr → List (Str × Addr) → List Addr → α
abbrev Dep.at {α : Type} (t : Dep α) (X : Cx) : α := t X.s_0 X.H_0 0 [] []
theorem pe_lcD {elt tg iter : Expr} {ifs : List Expr} {scope : Scope} {own : List (Str × Nat)} {pos : Pos} {wi : TI} {g : Dep TG} {tt : Dep TT} {te : Dep TE} (hc : X.calm = true) (hN : X.N.Nodup) (hi : PI X tg iter wi) (ok : BlkOk X.N X.env.scope scope own)
    (hg : ∀ (s : Shared) (H : Hp) (C : Addr) (cl : List (Str × Addr)) (fp : List Addr), PG (X.blk s H scope (compEnvC scope cl C X.env) fp) tg (g s H C cl fp)) (ht : ∀ (s : Shared) (H : Hp) (C : Addr) (cl : List (Str × Addr)) (fp : List Addr), PTs (X.blk s H scope (compEnvC scope cl C X.env) fp) ifs (tt s H C cl fp))
    (he : ∀ (s : Shared) (H : Hp) (C : Addr) (cl : List (Str × Addr)) (fp : List Addr), PE (X.blk s H scope (compEnvC scope cl C X.env) fp) elt (te s H C cl fp)) (hs : ∀ x, foldedSetIterable iter X.env x = pure x := by intro _; rfl)
    (eg : ∀ s H C cl fp, g s H C cl fp = g.at X := by intros; rfl) (et : ∀ s H C cl fp, tt s H C cl fp = tt.at X := by intros; rfl) (ee : ∀ s H C cl fp, te s H C cl fp = te.at X := by intros; rfl) :
    PE X (.ListComp elt [⟨tg, iter, ifs, 0⟩] scope pos) (tLc wi (g.at X) (tt.at X) (te.at X) (own.map (·.2))) :=
  pe_lc hc hN hi ok (fun s H C cl fp => eg s H C cl fp ▸ hg s H C cl fp) (fun s H C cl fp => et s H C cl fp ▸ ht s H C cl fp) (fun s H C cl fp => ee s H C cl fp ▸ he s H C cl fp) hs
theorem ps_setLcD {i : Nat} {y : Str} {py : Pos} {elt tg iter : Expr} {ifs : List Expr} {scope : Scope} {own : List (Str × Nat)} {pos spos : Pos} {wi : TI} {g : Dep TG} {tt : Dep TT} {te : Dep TE} (hc : X.calm = true) (hN : X.N.Nodup) (hy : X.N[i]? = some y) (hyl : X.env.scope.names.lookup y = some .local)
    (hsw : swapsWith (.ListComp elt [⟨tg, iter, ifs, 0⟩] scope pos) (some (.Name y py)) spos.line X.env = pure true) (hi : PI X tg iter wi) (ok : BlkOk X.N X.env.scope scope own)
    (hg : ∀ (s : Shared) (H : Hp) (C : Addr) (cl : List (Str × Addr)) (fp : List Addr), PG (X.blk s H scope (compEnvC scope cl C X.env) fp) tg (g s H C cl fp)) (ht : ∀ (s : Shared) (H : Hp) (C : Addr) (cl : List (Str × Addr)) (fp : List Addr), PTs (X.blk s H scope (compEnvC scope cl C X.env) fp) ifs (tt s H C cl fp))
    (he : ∀ (s : Shared) (H : Hp) (C : Addr) (cl : List (Str × Addr)) (fp : List Addr), PE (X.blk s H scope (compEnvC scope cl C X.env) fp) elt (te s H C cl fp)) (hs : ∀ x, foldedSetIterable iter X.env x = pure x := by intro _; rfl)
    (eg : ∀ s H C cl fp, g s H C cl fp = g.at X := by intros; rfl) (et : ∀ s H C cl fp, tt s H C cl fp = tt.at X := by intros; rfl) (ee : ∀ s H C cl fp, te s H C cl fp = te.at X := by intros; rfl) :
    PS X (.Assign [.Name y py] (.ListComp elt [⟨tg, iter, ifs, 0⟩] scope pos) spos) (tAsg (tLc wi (g.at X) (tt.at X) (te.at X) (own.map (·.2))) (gName i)) :=
  ps_setLc hc hN hy hyl hsw hi ok (fun s H C cl fp => eg s H C cl fp ▸ hg s H C cl fp) (fun s H C cl fp => et s H C cl fp ▸ ht s H C cl fp) (fun s H C cl fp => ee s H C cl fp ▸ he s H C cl fp) hs
end
theorem tyes {σ : L2.St} {H : Hp} {A B : Hp → Prop} (h : A H) : tYes σ H (fun b H3 => if b = true then A H3 else B H3) := by
  show (if true = true then A H else B H)
  exact iteT h
/-- the law -/
def sp_law (K : PySem.W.Frag) : Sp := fun vs H Q _ => ∃ (a : Addr) (ns : List Int), vs = [.ref a] ∧ SqL K H a (ns.map V.int) ∧ ns.length ≤ 63 ∧ ∀ H', Q (.bl true) H'
theorem same_ext {H H1 H2 : Hp} {d : Addr} (s : Same H H1) (n : H d = none) (e : Ext d H1 H2) : Same H H2 := fun a o h => e a o (ne_of_none h n) (s a o h)
/-- how many cells the law looks at -/
theorem cells_ok {n : Nat} (h : n ≤ 63) : ∀ j : Int, j = (if (if (n : Int) < 8 then (n : Int) else 8) > 1 then (if (n : Int) < 8 then (n : Int) else 8) else 1) → 1 ≤ j ∧ j ≤ 8 := by
  intro j e
  by_cases h1 : (n : Int) < 8
  · rw [if_pos h1] at e
    by_cases h2 : (n : Int) > 1
    · rw [if_pos h2] at e
      omega
    · rw [if_neg h2] at e
      omega
  · rw [if_neg h1] at e
    rw [if_pos (by decide)] at e
    omega
theorem mem_strs {m : List Str} {x : V} (h : x ∈ m.map V.str) : ∃ y ∈ m, x = .str y := by
  obtain ⟨y, h1, h2⟩ := List.mem_map.mp h
  exact ⟨y, h1, h2.symm⟩
theorem dp_signs {K : PySem.W.Frag} {H : Hp} : ∀ l : List Nat, DpAll K H (l.map fun c => V.str ⟨#[c]⟩) (l.map fun c => PyData.str ⟨#[c]⟩)
  | [] => .nil
  | _ :: l => .cons (.str _) (dp_signs l)
theorem dp_bls {K : PySem.W.Frag} {H : Hp} : ∀ l : List Bool, DpAll K H (l.map V.bl) (l.map PyData.bool)
  | [] => .nil
  | _ :: l => .cons (.bl _) (dp_bls l)
theorem take_next {α : Type} {l : List α} {i : Nat} {x : α} (h : l[i]? = some x) : l.take (i + 1) = l.take i ++ [x] := by
  rw [List.take_add_one, h]
  rfl
theorem lt_of_get {α : Type} {l : List α} {i : Nat} {x : α} (h : l[i]? = some x) : i < l.length := (List.getElem?_eq_some_iff.mp h).1
theorem lex1 (a b : Nat) : decide ([a] < [b]) = decide (a < b) := by
  by_cases h : a < b
  · rw [decide_eq_true h]
    exact decide_eq_true (List.Lex.rel h)
  · rw [decide_eq_false h]
    refine decide_eq_false fun z => ?_
    cases z with
    | rel h' => exact h h'
    | cons h' => cases h'
/-! ### the law's call -/
section
variable {P : Program} {w : World} {K : PySem.W.Frag} {mg mb : Str → Option Value} {CX : CXT} {k : Nat} {fa a : Addr} {fd : FuncData} {x : Str} {sp : Sp} {t : Shared} {items : List Value} {ns : List Int}
/-- the law's call at an abstract heap that knows nothing but, perhaps, the script -/
theorem call_from (inK : K.In t.heap) (glob : t.heap.Ns mainGlobals mg) (blt : t.heap.Ns builtinsNs mb) (bltBoot : ∀ x : Str, x ≠ "__name__" → mb x = bootBuiltins x) (noLim : t.heap.NoLimit) (noGens : t.gens = #[])
    (script : t.heap.get? a = some { cls := .type "list", data := .seq items.toArray }) (room : Room k callerA)
    (F : ∀ base : Heap, K.In base → base.Ns mainGlobals mg → FnOkG P w K mg base CX k fa fd [x] sp) (binds : ∀ (s : Shared) (u : Value), BindsTo s fd ⟨[u], []⟩ [(x, u)])
    (none' : ∀ H e s', CX [] H t (fun _ _ _ => False) e s' → False)
    (H : Hp) (only : Only H) (fine : HOk P w H t.heap) (atA : ∀ b, H b ≠ none → b = a ∧ K.lookup a = none) (wish : sp [.ref a] H (fun v _ => v = .bl true) fun _ _ _ => False) :
    codeAny (model P w) callerA (.call (.ref fa) ⟨[.ref a], []⟩) (fun r s' => r = .ok (.ret (.bool true)) ∧ OldK t.heap s'.heap ∧ s'.os = t.os ∧ AllBare s'.gens) t := by
  -- what is no list stays in sight when the script is hidden
  have free : ∀ {b : Addr} {o : Obj}, t.heap.get? b = some o → (b = a → K.lookup a ≠ none ∨ ∃ es ep, o.data = .dict es ep) → H b = none := by
    intro b o e h
    by_cases q : H b = none
    · exact q
    · obtain ⟨rfl, kn⟩ := atA b q
      rcases h rfl with h | ⟨es, ep, h⟩
      · exact absurd kn h
      · rw [script] at e
        cases e
        cases h
  have names : ∀ {b : Addr} {m : Str → Option Value}, t.heap.Ns b m → (hidT t.heap H).Ns b m := by
    rintro b m ⟨o, es, ep, e, d, r⟩
    exact ⟨o, es, ep, hidT_get e (free e fun _ => .inr ⟨es, ep, d⟩), d, r⟩
  have inB : K.In (hidT t.heap H) := fun b o e => hidT_get (inK b o e) (free (inK b o e) fun q => .inl (by
    subst q
    rw [e]
    exact fun z => nomatch z))
  have module : Mod K mg (hidT t.heap H) := by
    obtain ⟨mc, l1, l2⟩ := noLim
    exact ⟨inB, names glob, ⟨mb, names blt, bltBoot⟩, ⟨mc, names l1, l2⟩⟩
  have ground : Env0 P w K mg (hidT t.heap H) callerA [] t H := by
    refine ⟨rfl, module, fun b o e => of_hidT e, ?_, trivial, ?_, fine, .of_eq noGens⟩
    · exact Nat.le_of_eq (hidT_size t.heap H)
    · intro b hb
      cases hb
  have ran := (F _ inB (names glob)).go callerA [] t H ⟨[.ref a], []⟩ [.ref a] [.ref a] (fun v _ => v = .bl true) (fun _ _ _ => False) room rfl ground (binds t (.ref a)) (.cons rfl .nil) wish
  refine codeAny_mono ran ?_
  intro r s' h
  match r, h with
  | .error e, h => exact (none' H e s' h).elim
  | .ok .next, h => exact False.elim h
  | .ok .brk, h => exact False.elim h
  | .ok .cont, h => exact False.elim h
  | .ok (.ret u), h =>
    obtain ⟨v, H', os, bare, un, fine', rel, rfl⟩ := h
    cases (show u = Value.bool true from rel)
    refine ⟨rfl, OldK.of_keep ?_, os, bare⟩
    intro b o e
    cases q : H b with
    | none => exact un.keep b o e q (fun z => nomatch z) (fun z => nomatch z)
    | some u =>
      rcases only b with z | ⟨ob, xs, z⟩
      · exact absurd (z.symm.trans q) (fun y => nomatch y)
      · have before := (fine b _ z).1
        have behind := (fine' b _ (un.frzs b ob _ z)).1
        rw [e] at before
        cases before
        exact behind
theorem law_callG (inK : K.In t.heap) (glob : t.heap.Ns mainGlobals mg) (blt : t.heap.Ns builtinsNs mb) (bltBoot : ∀ x : Str, x ≠ "__name__" → mb x = bootBuiltins x) (noLim : t.heap.NoLimit) (noGens : t.gens = #[])
    (script : t.heap.get? a = some { cls := .type "list", data := .seq items.toArray }) (areInts : IntsAre items ns) (short : ns.length ≤ sizeLine) (room : Room k callerA)
    (F : ∀ base : Heap, K.In base → base.Ns mainGlobals mg → FnOkG P w K mg base CX k fa fd [x] sp) (binds : ∀ (s : Shared) (u : Value), BindsTo s fd ⟨[u], []⟩ [(x, u)])
    (none' : ∀ H e s', CX [] H t (fun _ _ _ => False) e s' → False) (wish : ∀ H : Hp, Only H → SqL K H a (ns.map V.int) → sp [.ref a] H (fun v _ => v = .bl true) fun _ _ _ => False) :
    codeAny (model P w) callerA (.call (.ref fa) ⟨[.ref a], []⟩) (fun r s' => r = .ok (.ret (.bool true)) ∧ OldK t.heap s'.heap ∧ s'.os = t.os ∧ AllBare s'.gens) t := by
  have vals := vals_ints areInts
  cases kn : K.lookup a with
  | some o =>
    have o' := inK a o kn
    rw [script] at o'
    cases o'
    have o1 : Only fun _ => none := fun _ => .inl rfl
    refine call_from inK glob blt bltBoot noLim noGens script room F binds none' (fun _ => none) o1 (fun _ _ z => nomatch z) (fun _ z => absurd rfl z) (wish _ o1 (.inr ⟨_, items.toArray, _, kn, rfl, rfl, rfl, ?_, by simpa using vals⟩))
    rw [List.size_toArray, areInts.length]
    exact short
  | none =>
    let H : Hp := fun b => if b = a then some (.frz { cls := .type "list", data := .seq items.toArray } (.lst (ns.map V.int))) else none
    have here : H a = some (.frz { cls := .type "list", data := .seq items.toArray } (.lst (ns.map V.int))) := if_pos rfl
    have there : ∀ b, b ≠ a → H b = none := fun b hb => if_neg hb
    have o1 : Only H := fun b => if hb : b = a then .inr ⟨_, _, hb ▸ here⟩ else .inl (there b hb)
    refine call_from inK glob blt bltBoot noLim noGens script room F binds none' H o1 (fun b u z => ?_) (fun b z => ?_) (wish _ o1 (.inl (.inr ⟨_, here⟩)))
    · by_cases hb : b = a
      · subst hb
        rw [here] at z
        cases z
        exact ⟨script, by rw [List.length_map]; exact short, items, _, vals, script⟩
      · rw [there b hb] at z
        cases z
    · by_cases hb : b = a
      · exact ⟨hb, kn⟩
      · exact absurd (there b hb) z
end
theorem walk_ofG {l : PySem.W.OpenLaw} {k : Nat} {q : Program} {loose : List Str} {XP : (Str → Option Value) → Heap → Prop} {YP : World → Heap → Prop} {d : DefRec} {K : Params → PySem.W.Frag} {sp : PySem.W.Frag → Sp} {x : Str}
    (most : l.most = some 63) (plain : d.params.defaults = []) (room : Room k callerA) (hY : ∀ (w : World) (h : Heap), YP w h → (K w.params).In h)
    (F : ∀ (w : World) (mg : Str → Option Value) (fa : Addr) (h : Heap), (K w.params).In h → h.Ns mainGlobals mg → mg d.name = some (.ref fa) →
      ∃ fd : FuncData, (∀ (s : Shared) (u : Value), BindsTo s fd ⟨[u], []⟩ [(x, u)]) ∧ ∀ base : Heap, (K w.params).In base → base.Ns mainGlobals mg → FnOkG l.prog w (K w.params) mg base CX0 k fa fd [x] (sp (K w.params)))
    (wish : ∀ (K : PySem.W.Frag) (H : Hp) (a : Addr) (ns : List Int), ns.length ≤ 63 → SqL K H a (ns.map V.int) → sp K [.ref a] H (fun v _ => v = .bl true) fun _ _ _ => False) :
    PySem.W.WalkO q loose XP YP l.row.toRowW d [] (fun f vs => PySem.call f vs) := by
  refine Att.attach_call most plain ?_
  intro w s₀ s₁ mg mb fa o pm cd doc a vs ns G Y _ _ _ named script areInts len gens
  have inK := hY w _ Y
  obtain ⟨fd, binds, ok⟩ := F w mg fa _ inK G.T.g named
  exact law_callG inK G.T.g G.T.b G.T.builtins G.T.nolimit gens script areInts (Nat.le_trans len (by decide)) room ok binds (fun _ _ _ z => z) fun H _ hS => wish _ H a ns len hS
/-! ### repr of data -/
section
variable {X : Cx}
theorem call_repr_data (hG : X.A.guards = some []) (hu : X.A.units + 64 < cLine) : CallR X (.builtin "repr") (fun xs H Q => ∃ (p : Addr) (d : PyData), xs = [.ref p] ∧ Dp X.K H (.ref p) d ∧ d.showable = true ∧ d.hasDict = false ∧ d.depth ≤ 20 ∧ d.shown.length ≤ sizeLine ∧ Q (.str d.shown) H) := by
  intro pins s σ H xs us Q I r h
  obtain ⟨p, d, rfl, hd, h1, h2, h3, h4, q⟩ := h
  obtain ⟨u, rfl, r1⟩ := vals1 r
  cases r1
  obtain ⟨as, rd⟩ := Dp.reads I d (.ref p) (.ref p) hd rfl
  exact repr_of_reads' (h₀ := s.heap) rd h1 (fun z => by rw [h2] at z; cases z) hG (by omega) (fun _ _ e => e) (fun h' u tk k => ⟨.str d.shown, H, I.kept k, ⟨u, rfl⟩, q⟩) h4
end
/-! ### cuts: what is known behind a statement -/
theorem cut_set {te : TE} {i : Nat} {u : TS} {D : Ends} {σ : L2.St} {H : Hp} (PV : V → Hp → Prop) (h : ∀ Q : VK, (∀ v H', PV v H' → Q v H') → te σ H Q) (k : ∀ v H', PV v H' → u D (σ.set i (some v)) H') : tSeq (tAsg te (gName i)) u D σ H := h _ k
theorem cut_for {wi : TI} {g : TG} {tb u : TS} {D : Ends} {σ : L2.St} {H : Hp} (PS' : L2.St → Hp → Prop) (h : ∀ N : L2.St → Hp → Prop, (∀ σ' H', PS' σ' H' → N σ' H') → tFor wi g tb { D with nx := N } σ H) (k : ∀ σ' H', PS' σ' H' → u D σ' H') : tSeq (tFor wi g tb) u D σ H := h _ k
theorem cut_it {K : PySem.W.Frag} {te : TE} {g : TG} {tb : TS} {D : Ends} {σ : L2.St} {H : Hp} (PV : V → Hp → Prop) (h : ∀ Q : VK, (∀ v H', PV v H' → Q v H') → te σ H Q) (k : ∀ v H', PV v H' → tFor (iList K (fun _ H1 Q => Q v H1)) g tb D σ H') : tFor (iList K te) g tb D σ H := h _ k
section
variable {X : Cx}
theorem pe_lc2D {elt tg iter tg1 iter1 : Expr} {ifs ifs1 : List Expr} {scope : Scope} {own : List (Str × Nat)} {vs1 : List Nat} {pos : Pos} {wi : TI} {wi1 : Dep TI} {g g1 : Dep TG} {tt tt1 : Dep TT} {te : Dep TE} (hc : X.calm = true) (hN : X.N.Nodup) (hi : PI X tg iter wi) (ok : BlkOk X.N X.env.scope scope own) (hv : ∀ i ∈ vs1, i ∈ own.map (·.2))
    (hg : ∀ (s : Shared) (H : Hp) (C : Addr) (cl : List (Str × Addr)) (fp : List Addr), PG (X.blk s H scope (compEnvC scope cl C X.env) fp) tg (g s H C cl fp)) (ht : ∀ (s : Shared) (H : Hp) (C : Addr) (cl : List (Str × Addr)) (fp : List Addr), PTs (X.blk s H scope (compEnvC scope cl C X.env) fp) ifs (tt s H C cl fp))
    (hi1 : ∀ (s : Shared) (H : Hp) (C : Addr) (cl : List (Str × Addr)) (fp : List Addr), PI (X.blk s H scope (compEnvC scope cl C X.env) fp) tg1 iter1 (wi1 s H C cl fp))
    (hg1 : ∀ (s : Shared) (H : Hp) (C : Addr) (cl : List (Str × Addr)) (fp : List Addr), PG (X.blk s H scope (compEnvC scope cl C X.env) fp) tg1 (g1 s H C cl fp)) (ht1 : ∀ (s : Shared) (H : Hp) (C : Addr) (cl : List (Str × Addr)) (fp : List Addr), PTs (X.blk s H scope (compEnvC scope cl C X.env) fp) ifs1 (tt1 s H C cl fp))
    (he : ∀ (s : Shared) (H : Hp) (C : Addr) (cl : List (Str × Addr)) (fp : List Addr), PE (X.blk s H scope (compEnvC scope cl C X.env) fp) elt (te s H C cl fp)) (hs : ∀ x, foldedSetIterable iter X.env x = pure x := by intro _; rfl) (hs1 : ∀ env x, foldedSetIterable iter1 env x = pure x := by intro _ _; rfl)
    (eg : ∀ s H C cl fp, g s H C cl fp = g.at X := by intros; rfl) (et : ∀ s H C cl fp, tt s H C cl fp = tt.at X := by intros; rfl) (ei : ∀ s H C cl fp, wi1 s H C cl fp = wi1.at X := by intros; rfl) (eg1 : ∀ s H C cl fp, g1 s H C cl fp = g1.at X := by intros; rfl) (et1 : ∀ s H C cl fp, tt1 s H C cl fp = tt1.at X := by intros; rfl)
    (ee : ∀ s H C cl fp, te s H C cl fp = te.at X := by intros; rfl) :
    PE X (.ListComp elt [⟨tg, iter, ifs, 0⟩, ⟨tg1, iter1, ifs1, 0⟩] scope pos) (tLc2 wi (g.at X) (tt.at X) (wi1.at X) (g1.at X) (tt1.at X) (te.at X) (own.map (·.2)) vs1) :=
  pe_lc2 hc hN hi ok hv (fun s H C cl fp => eg s H C cl fp ▸ hg s H C cl fp) (fun s H C cl fp => et s H C cl fp ▸ ht s H C cl fp) (fun s H C cl fp => ei s H C cl fp ▸ hi1 s H C cl fp) (fun s H C cl fp => eg1 s H C cl fp ▸ hg1 s H C cl fp) (fun s H C cl fp => et1 s H C cl fp ▸ ht1 s H C cl fp)
    (fun s H C cl fp => ee s H C cl fp ▸ he s H C cl fp) hs hs1
end
/-! ### a walk over a tuple, a list, whatever is done in a turn -/
theorem walk_tup {K : PySem.W.Frag} {a : Addr} {xs : List V} {B : V → Hp → (Hp → Prop) → Prop} {H1 : Hp} {Qd : Hp → Prop} (Pv : Nat → Hp → Prop) (h0 : Pv 0 H1) (hl : ∀ i H, i ≤ xs.length → Pv i H → SqT K H a xs)
    (hs : ∀ i x H, xs[i]? = some x → Pv i H → B x H (Pv (i + 1))) (hd : ∀ H, Pv xs.length H → Qd H) :
    ∃ W : Nat → Nat → Hp → Prop, (∃ m, W 0 m H1) ∧ ∀ i m H, W i m H →
      ((Itt K a).stop i H ∧ Qd H) ∨ ((Itt K a).go i H ∧ ∃ Nx : Hp → Prop, (∀ H', Nx H' → ∃ m', m' < m ∧ W (i + 1) m' H') ∧ ∀ x H', (Itt K a).yld i H x H' → B x H' Nx) := by
  refine ⟨fun i m H => (m = xs.length - i ∧ i ≤ xs.length) ∧ Pv i H, ⟨xs.length, ⟨by omega, Nat.zero_le _⟩, h0⟩, ?_⟩
  rintro i m H ⟨⟨rfl, le⟩, p⟩
  have there := hl i H le p
  rcases Nat.lt_or_ge i xs.length with lt | ge
  · have item : xs[i]? = some xs[i] := List.getElem?_eq_getElem lt
    refine .inr ⟨⟨xs, xs[i], there, item⟩, Pv (i + 1), ?_, ?_⟩
    · exact fun H' p' => ⟨xs.length - (i + 1), by omega, ⟨rfl, lt⟩, p'⟩
    · rintro x H' ⟨rfl, y⟩
      exact hs i x _ (y xs there) p
  · have e : i = xs.length := by omega
    subst e
    refine .inl ⟨?_, hd H p⟩
    exact ⟨xs, there, Nat.le_refl _⟩


end My
namespace My
open PySem PySem.Spec PyProof.Rows L2 TL
/-! ### the pieces of a joined text are what was joined -/
abbrev ARW : Str := " -> "
theorem arw_len : ARW.length = 4 := by decide +kernel
theorem arw_list : ARW.cps.toList = [32, 45, 62, 32] := by decide +kernel
theorem at_drop {x : Str} {k : Nat} : StrLaws.At x ARW x.length k ↔ (x.cps.toList.drop k).take 4 = [32, 45, 62, 32] := by
  unfold StrLaws.At
  rw [StrLaws.subAt_eq, arw_list, arw_len]
  constructor
  · exact fun h => eq_of_beq h.2
  · intro h
    have l := congrArg List.length h
    rw [List.length_take, List.length_drop] at l
    have l' : min 4 (x.cps.toList.length - k) = 4 := l
    exact ⟨by show k + 4 ≤ x.cps.size; rw [← Array.length_toList]; omega, by rw [h]; decide⟩
def glueL : List Str → List Nat
  | [] => []
  | [p] => p.cps.toList
  | p :: q :: r => p.cps.toList ++ ([32, 45, 62, 32] ++ glueL (q :: r))
theorem join_glueL : ∀ ps : List Str, (Txt.join ARW ps).cps.toList = glueL ps
  | [] => by decide +kernel
  | [p] => by
    show (Builtin.Str.glued ARW [p]).cps.toList = _
    rw [StrLaws.glued_eq_join]
    rfl
  | p :: q :: r => by
    have ih := join_glueL (q :: r)
    have e : Txt.join ARW (q :: r) = Str.join ARW (q :: r) := StrLaws.glued_eq_join _ _
    rw [e] at ih
    show (Builtin.Str.glued ARW (p :: q :: r)).cps.toList = _
    rw [StrLaws.glued_eq_join]
    show tl (p ++ ARW ++ Str.join ARW (q :: r)) = _
    rw [tl_append, tl_append]
    show p.cps.toList ++ ARW.cps.toList ++ (Str.join ARW (q :: r)).cps.toList = _
    rw [arw_list, ih, glueL, List.append_assoc]
theorem no_at {x : Str} {a : Nat} {p rest : List Nat} (h : x.cps.toList.drop a = p ++ ([32, 45, 62, 32] ++ rest)) (np : 62 ∉ p) {k : Nat} (h1 : a ≤ k) (h2 : k < a + p.length) : ¬ StrLaws.At x ARW x.length k := fun hA => by
  have hA := at_drop.mp hA
  obtain ⟨j, rfl⟩ := Nat.exists_eq_add_of_le h1
  rw [← List.drop_drop, h, List.drop_append_of_le_length (by omega)] at hA
  have sub : ∀ c ∈ p.drop j, c ∈ p := fun c hc => List.mem_of_mem_drop hc
  have len : 0 < (p.drop j).length := by rw [List.length_drop]; omega
  match hp : p.drop j, hA, len, sub with
  | [], _, l, _ => cases l
  | [c], hA, _, _ =>
    injection hA with _ t
    injection t with t _
    exact absurd t (by decide)
  | [c, d], hA, _, _ =>
    injection hA with _ t
    injection t with _ t
    injection t with t _
    exact absurd t (by decide)
  | c :: d :: e :: r, hA, _, sub =>
    injection hA with _ t
    injection t with _ t
    injection t with t _
    exact np (t ▸ sub e (by simp))
theorem no_at_end {x : Str} {a : Nat} {p : List Nat} (h : x.cps.toList.drop a = p) (np : 62 ∉ p) {k : Nat} (h1 : a ≤ k) : ¬ StrLaws.At x ARW x.length k := fun hA => by
  have hA := at_drop.mp hA
  obtain ⟨j, rfl⟩ := Nat.exists_eq_add_of_le h1
  rw [← List.drop_drop, h] at hA
  have m : 62 ∈ (p.drop j).take 4 := by rw [hA]; simp
  exact np (List.mem_of_mem_drop (List.mem_of_mem_take m))
theorem at_here {x : Str} {a : Nat} {p rest : List Nat} (h : x.cps.toList.drop a = p ++ ([32, 45, 62, 32] ++ rest)) : StrLaws.At x ARW x.length (a + p.length) := at_drop.mpr (by
  rw [← List.drop_drop, h, List.drop_left]
  rfl)
theorem str_list {x y : Str} (h : x.cps.toList = y.cps.toList) : x = y := by
  cases x
  cases y
  exact congrArg _ (Array.toList_inj.mp h)
theorem chain_one {x : Str} : ∀ (ps : List Str), ps ≠ [] → (∀ p ∈ ps, 62 ∉ p.cps.toList) → ∀ (a : Nat) (cuts : List Nat) (f : Nat), x.cps.toList.drop a = glueL ps → StrLaws.ChainG x ARW x.length a cuts f → (∀ k, f ≤ k → ¬ StrLaws.At x ARW x.length k) →
    StrLaws.partsFrom x ARW.length a cuts = ps
  | [], ne, _, _, _, _, _, _, _ => absurd rfl ne
  | [p], _, free, a, cuts, f, h, hG, hn => by
    have np := free p (List.mem_singleton.mpr rfl)
    cases cuts with
    | nil =>
      show [Builtin.Str.strSub x a x.length] = [p]
      refine congrArg (fun z => [z]) (str_list ?_)
      rw [StrLaws.strSub_toList, h, glueL]
      refine List.take_of_length_le ?_
      have l := congrArg List.length h
      rw [List.length_drop, glueL] at l
      show p.cps.toList.length ≤ x.cps.size - a
      rw [← Array.length_toList]
      omega
    | cons c r => exact absurd hG.2.1 (no_at_end h np hG.1)
  | p :: q :: r, _, free, a, cuts, f, h, hG, hn => by
    have np := free p (List.mem_cons_self ..)
    rw [glueL] at h
    have here := at_here h
    cases cuts with
    | nil =>
      have e : f = a := hG
      exact absurd here (hn _ (by omega))
    | cons c s =>
      obtain ⟨h1, h2, h3, h4⟩ := hG
      have ec : c = a + p.cps.toList.length := by
        rcases Nat.lt_trichotomy c (a + p.cps.toList.length) with z | z | z
        · exact absurd h2 (no_at h np h1 z)
        · exact z
        · exact absurd here (h3 _ (Nat.le_add_right _ _) z)
      have hd : x.cps.toList.drop (c + ARW.length) = glueL (q :: r) := by
        rw [ec, arw_len, ← List.drop_drop, ← List.drop_drop, h, List.drop_left]
        rfl
      have ih := chain_one (q :: r) (List.cons_ne_nil _ _) (fun z hz => free z (List.mem_cons_of_mem _ hz)) _ s f hd h4 hn
      show Builtin.Str.strSub x a c :: StrLaws.partsFrom x ARW.length (c + ARW.length) s = _
      rw [ih]
      refine congrArg (fun z => z :: q :: r) (str_list ?_)
      rw [StrLaws.strSub_toList, h, ec, Nat.add_sub_cancel_left, List.take_left]
theorem split_join {ps : List Str} (ne : ps ≠ []) (free : ∀ p ∈ ps, 62 ∉ p.cps.toList) : Txt.split (Txt.join ARW ps) ARW = ps := by
  generalize hx : Txt.join ARW ps = x
  have hd : x.cps.toList.drop 0 = glueL ps := by rw [List.drop_zero, ← hx, join_glueL]
  obtain ⟨f, hG, hn⟩ := StrLaws.occ_tight x ARW (by rw [arw_len]; decide)
  have key := chain_one ps ne free 0 _ f hd hG hn
  have whole : Builtin.Str.strSub x 0 x.length = x := by
    refine str_list ?_
    rw [StrLaws.strSub_toList, List.drop_zero, Nat.sub_zero]
    exact List.take_of_length_le (Nat.le_of_eq (Array.length_toList))
  unfold Txt.split
  split
  · rename_i hc
    have short : x.length < ARW.length := by
      rw [Bool.or_eq_true, decide_eq_true_eq, decide_eq_true_eq] at hc
      rcases hc with h | h
      · exact h
      · have k : Builtin.Str.strKind ARW = 1 := by decide +kernel
        rw [k] at h
        unfold Builtin.Str.strKind at h
        split at h
        · omega
        · split at h <;> omega
    cases e : Builtin.Str.occurrences x ARW 0 x.length (x.length + 1) with
    | nil =>
      rw [e] at key
      rw [← key]
      exact congrArg (fun z => [z]) whole.symm
    | cons c r =>
      rw [e] at hG
      have := hG.2.1.1
      omega
  · split
    · rename_i he
      rw [List.isEmpty_iff.mp he] at key
      rw [← key]
      exact congrArg (fun z => [z]) whole.symm
    · rw [StrLaws.partsBetween_eq]
      exact key


end My
namespace My
open PySem PySem.Spec PyProof.Rows L2 TL
set_option pp.maxSteps 3000
set_option pp.deepTerms false
/-! ### operators of an own class, by the promises of its methods -/
section
variable {X : Cx}
/-- the def at f, called with such values, keeps sp; E is what is wished if it raises -/
def Runs (X : Cx) (f : Addr) (sp : Sp) (E : XK) : Prop := ∀ (pins : List (Addr × Obj)) (σ : L2.St) (H : Hp) (s : Shared) (Q : VK) (us : List Value) (vs : List V), Inv X pins σ H s → Vals vs us → sp vs H Q E →
  wpAny (model X.prog X.w) X.A (call (.ref f) us) (EP X pins σ Q) X.xe s
/-- the same one built-in deeper -/
def Runs1 (X : Cx) (f : Addr) (sp : Sp) (E : XK) : Prop := ∀ (pins : List (Addr × Obj)) (σ : L2.St) (H : Hp) (s : Shared) (Q : VK) (us : List Value) (vs : List V), Inv X pins σ H s → Vals vs us → sp vs H Q E →
  wpAny (model X.prog X.w) X.A.in1 (call (.ref f) us) (EP X pins σ Q) X.xe s
variable {k : Nat} {f : Addr} {fd : FuncData} {ps : List Str} {sp : Sp} {E : XK} {CX : CXT} {C : Addr}
theorem Runs.ofG (F : FnOkG X.prog X.w X.K X.mg X.base CX k f fd ps sp) (room : Room k X.A) (still : X.A.guards = some []) (binds : Binds X.K fd ps []) (pass : Passes CX X E) : Runs X f sp E :=
  fun pins σ H s Q us vs I r h => run_fnG (dvs := []) F room still binds .nil pass I r (by rw [List.append_nil]; exact h)
theorem Runs.of (F : FnOk X.prog X.w X.K X.mg X.base CX k f fd ps sp) (room : Room k X.A) (binds : Binds X.K fd ps []) (pass : Passes CX X E) : Runs X f sp E :=
  fun pins σ H s Q us vs I r h => run_fn (dvs := []) F room binds .nil pass I r (by rw [List.append_nil]; exact h)
theorem Runs1.of (F : FnOk X.prog X.w X.K X.mg X.base CX k f fd ps sp) (room : Room (k + 1) X.A) (binds : Binds X.K fd ps []) (pass : Passes CX X E) : Runs1 X f sp E := by
  intro pins σ H s Q us vs I r h
  have len : (us ++ []).length = ps.length := by rw [List.append_nil, ← r.length]; exact F.len _ _ _ _ h
  have ran := F.run X.A.in1 X.stack s H ⟨us, []⟩ (us ++ []) vs Q E room.in1 I.env0.in1 (binds s us I.kIn len) (by rw [List.append_nil]; exact r) h
  refine wpAny_call (codeAny_mono ran ?_)
  intro r s' h
  match r, h with
  | .error e, h => exact pass pins σ H s e s' I h
  | .ok (.ret u), h => exact I.after h
  | .ok .next, h => exact False.elim h
  | .ok .brk, h => exact False.elim h
  | .ok .cont, h => exact False.elim h
theorem ep_back {pins : List (Addr × Obj)} {σ : L2.St} {Q : VK} {u : Value} {s' : Shared} (h : EP X pins σ Q u s') : PySem.W.CmpBack (EP X pins σ Q) u s' := by
  obtain ⟨v, H', I, r, q⟩ := h
  have no : u ≠ .notImplemented := fun z => by
    subst z
    cases v <;> first | (obtain ⟨_, z⟩ := r; exact nomatch z) | exact nomatch (show Value.notImplemented = _ from r)
  cases u <;> first | exact ⟨v, H', I, r, q⟩ | exact absurd rfl no
/-- an instance, as the library sees it -/
theorem inst_at {pins : List (Addr × Obj)} {σ : L2.St} {H : Hp} {s : Shared} {a dx : Addr} {fs : List (Str × V)} (I : Inv X pins σ H s) (h : H a = some (.ins C dx fs)) : ∃ od, PySem.W.InstAt s.heap a (PySem.W.instObj C dx) C (some od) := by
  obtain ⟨mA, O, _⟩ := ins_get I.hok h
  obtain ⟨od, J, _⟩ := O.look
  exact ⟨od, J⟩
/-- x op y, both of the class -/
def rOwn (C : Addr) (sp : Sp) (E : XK) : R2 := fun x y H Q => ∃ a dx fs b dx2 fs2, x = .ref a ∧ y = .ref b ∧ H a = some (.ins C dx fs) ∧ H b = some (.ins C dx2 fs2) ∧ sp [x, y] H Q E
theorem op_own {op : Operator} (R : Runs X f sp E) (first : PySem.W.selfFirst X.K C = true) (there : PySem.W.findIn X.K (.ref C) (PySem.dunder op.info.2) = some (some (.ref f))) (fn : PySem.W.isFn X.K (.ref f) = true) : OpR X (binaryOp op) (rOwn C sp E) := by
  intro pins s σ H x y u v Q I rx ry h
  obtain ⟨a, dx, fs, b, dx2, fs2, rfl, rfl, ha, hb, q⟩ := h
  cases rx
  cases ry
  obtain ⟨od, J⟩ := inst_at I ha
  obtain ⟨od2, J2⟩ := inst_at I hb
  obtain ⟨m, fr⟩ := I.fr
  refine PySem.W.binop_K fr I.ok.mod.kin J J2.type first there fn ?_
  exact wpAny_mono (R pins σ H s Q [.ref a, .ref b] [.ref a, .ref b] I (.cons rfl (.cons rfl .nil)) q) (fun _ _ z => ep_back z) fun _ _ z => z
theorem op_ownEq (R : Runs X f sp E) (room : X.A.units < cLine) (first : PySem.W.notFirst X.K C (.ref C) = true) (there : PySem.W.findIn X.K (.ref C) "__eq__" = some (some (.ref f))) (fn : PySem.W.isFn X.K (.ref f) = true) : OpR X (compareOp .Eq) (rOwn C sp E) := by
  intro pins s σ H x y u v Q I rx ry h
  obtain ⟨a, dx, fs, b, dx2, fs2, rfl, rfl, ha, hb, q⟩ := h
  cases rx
  cases ry
  obtain ⟨od, J⟩ := inst_at I ha
  obtain ⟨od2, J2⟩ := inst_at I hb
  obtain ⟨m, fr⟩ := I.fr
  refine PySem.W.cmp_K (op := .Eq) room fr I.ok.mod.kin J J2.type first there fn ?_
  exact wpAny_mono (R pins σ H s Q [.ref a, .ref b] [.ref a, .ref b] I (.cons rfl (.cons rfl .nil)) q) (fun _ _ z => ep_back z) fun _ _ z => z
/-- x != y where the class has __eq__ alone -/
def rOwnNe (C : Addr) (sp : Sp) (E : XK) : R2 := fun x y H Q => ∃ a dx fs b dx2 fs2, x = .ref a ∧ y = .ref b ∧ H a = some (.ins C dx fs) ∧ H b = some (.ins C dx2 fs2) ∧ sp [x, y] H (fun v H' => ∃ c, v = .bl c ∧ Q (.bl (!c)) H') E
theorem op_ownNe (R : Runs1 X f sp E) (room : X.A.units + 1 < cLine) (first : PySem.W.notFirst X.K C (.ref C) = true) (ne : PySem.W.findIn X.K (.ref C) "__ne__" = some (some (.builtin "object.__ne__"))) (under : PySem.W.subIn X.K (.ref C) (.type "object") = some true)
    (there : PySem.W.findIn X.K (.ref C) "__eq__" = some (some (.ref f))) (fn : PySem.W.isFn X.K (.ref f) = true) : OpR X (compareOp .NotEq) (rOwnNe C sp E) := by
  intro pins s σ H x y u v Q I rx ry h
  obtain ⟨a, dx, fs, b, dx2, fs2, rfl, rfl, ha, hb, q⟩ := h
  cases rx
  cases ry
  obtain ⟨od, J⟩ := inst_at I ha
  obtain ⟨od2, J2⟩ := inst_at I hb
  have K' := I.kIn
  have sub : PySem.W.Looks (model X.prog X.w) s.heap (isInstance (.ref a) (.type "object")) true := J.type.andThen (PySem.W.looks_subIn K' under)
  -- object.__ne__ asks __eq__ and turns the answer round
  have body : wpAny (model X.prog X.w) X.A (tryCompare (.ref a) "__ne__" (.ref b)) (fun r s' => ∃ w, r = some w ∧ EP X pins σ Q w s') X.xe s := by
    unfold tryCompare
    refine wpAny_bind ?_
    simp only [callSpecialIfBound?, bindSpecialIfBound?]
    refine wpAny_holding (wpAny_bind (wpAny_bind (wpAny_bind (J.type.here ((PySem.W.looks_findIn K' ne).here ?_)))))
    simp only [PySem.F.cmp_object.ne.bind]
    have fin : wpAny (model X.prog X.w) X.A (call (.builtin "object.__ne__") [.ref a, .ref b]) (fun w s' => EP X pins σ Q w s' ∧ w ≠ .notImplemented) X.xe s := by
      refine wpAny_call (codeAny_call_builtin PySem.F.cmp_object.ne.plain PySem.F.cmpEntry_ne (@PySem.W.check_slot (model X.prog X.w) _ _ s "object.__ne__" "object" "__ne__" (.ref a) [.ref b] [] _ PySem.F.cmpKind_ne PySem.F.cmpSplit_ne sub (PySem.F.cmpArgs_ne _ _) ?_))
      unfold Builtin.«object.__ne__»
      refine wpAny_bind (m := slotArgs "__ne__" 1 _) (wpAny_pure ?_)
      refine wpAny_bind (wpAny_cRoomFor (by show X.A.units + 1 < cLine; exact room) (wpAny_bind ?_))
      refine PySem.W.ifBound_K K' J there fn (wpAny_mono (R pins σ H s _ [.ref a, .ref b] [.ref a, .ref b] I (.cons rfl (.cons rfl .nil)) q) (fun w s' z => ?_) fun _ _ z => z)
      obtain ⟨v, H', I', r, c, rfl, q'⟩ := z
      cases r
      refine wpAny_bind (wpAny_truthy_bool ?_)
      exact wpAny_pure ⟨⟨.bl (!c), H', I', rfl, q'⟩, fun z => nomatch z⟩
    refine wpAny_bind (wpAny_askSetting (wpAny_ite ?_))
    split
    · refine wpAny_bind (wpAny_pure (wpAny_pure (wpAny_bind (wpAny_mono fin (fun w s' z => wpAny_pure ?_) fun _ _ z => z))))
      obtain ⟨z, no⟩ := z
      cases w <;> first | exact absurd rfl no | exact wpAny_pure ⟨_, rfl, z⟩
    · refine wpAny_tryCatch (wpAny_bind (wpAny_pure (wpAny_pure (wpAny_bind (wpAny_mono fin (fun w s' z => wpAny_pure ?_) fun _ _ z => z)))))
      obtain ⟨z, no⟩ := z
      cases w <;> first | exact absurd rfl no | exact wpAny_pure ⟨_, rfl, z⟩
  show wpAny (model X.prog X.w) X.A (richCompare .NotEq (.ref a) (.ref b)) _ _ _
  unfold richCompare
  simp only [oneThing_ref]
  refine wpAny_holding (wpAny_bind (wpAny_cRoomFor (by omega) ?_))
  refine wpAny_bind (J.type.here (wpAny_bind (J2.type.here ?_)))
  simp only [bne_self_eq_false, Bool.false_eq_true, if_false]
  refine wpAny_bind (wpAny_pure ?_)
  refine wpAny_bind (wpAny_mono body (fun r s' z => ?_) fun _ _ z => z)
  obtain ⟨w, rfl, z⟩ := z
  exact wpAny_pure z
end
/-! ### defs, methods, properties, makers that look at no guard, by their promises -/
structure CalN (P : Program) (w : World) (K : PySem.W.Frag) (mg : Str → Option Value) (base : Heap) (x : Str) (k : Nat) (ps : List Str) (sp : Sp) : Prop where
  ex : ∃ f fd, FnOk P w K mg base CX0 k f fd ps sp ∧ mg x = some (.ref f) ∧ PySem.W.keepIn K (.ref f) = true ∧ Binds K fd ps []
theorem CalN.of {P : Program} {w : World} {K : PySem.W.Frag} {mg : Str → Option Value} {base : Heap} {x q : Str} {k : Nat} {ps : List Str} {sp : Sp} {st : Stmt} {f : Addr} {fd : FuncData}
    (F : Fun K x q st f fd) (hm : mg x = some (.ref f)) (hb : Binds K fd ps []) (ok : FnOk P w K mg base CX0 k f fd ps sp) : CalN P w K mg base x k ps sp := ⟨f, fd, ok, hm, F.kp, hb⟩
theorem CalN.lift {P : Program} {w : World} {K : PySem.W.Frag} {mg : Str → Option Value} {base : Heap} {x : Str} {k : Nat} {ps : List Str} {sp : Sp} (c : CalN P w K mg base x k ps sp) : Cal P w K mg base x k ps sp := by
  obtain ⟨f, fd, ok, hm, kp, hb⟩ := c.ex
  exact ⟨f, fd, .lift ok, hm, kp, hb⟩
structure MetC (P : Program) (w : World) (K : PySem.W.Frag) (mg : Str → Option Value) (base : Heap) (C : Addr) (m : Str) (k : Nat) (ps : List Str) (sp : Sp) : Prop where
  ex : ∃ f fd, FnOk P w K mg base CX0 k f fd ps sp ∧ Meth K C m f ∧ Binds K fd ps []
structure PrpC (P : Program) (w : World) (K : PySem.W.Frag) (mg : Str → Option Value) (base : Heap) (C : Addr) (m : Str) (k : Nat) (ps : List Str) (sp : Sp) : Prop where
  ex : ∃ p g fd, FnOk P w K mg base CX0 k g fd ps sp ∧ PropOf K C m p g ∧ Binds K fd ps []
structure MakC (P : Program) (w : World) (K : PySem.W.Frag) (mg : Str → Option Value) (base : Heap) (C : Addr) (k : Nat) (ps : List Str) (sp : Sp) : Prop where
  ex : ∃ f fd, FnOk P w K mg base CX0 k f fd ps sp ∧ Mk K C f ∧ Binds K fd ps []
section
variable {X : Cx} {x m : Str} {k : Nat} {ps : List Str} {sp : Sp} {e o : Expr} {es : List Expr} {ta : TE} {t : TA} {p pos apos : Pos} {C : Addr}
theorem pe_callN (c : CalN X.prog X.w X.K X.mg X.base x k ps sp) (room : Room k X.A) (hg : Gl X x) (ha : PA X (e :: es) t) (hdb : (x == ("__debug__" : Str)) = false := by decide)
    (he : starEach (e :: es) X.env = (false, eval e X.env) :: starEach es X.env := by rfl) (hpl : (backTo pos (starEach es X.env)).any (·.1) = false := by rfl) :
    PE X (.Call (.Name x p) (e :: es) [] pos) (tCall sp [] E0 t) := by
  obtain ⟨f, fd, ok, hm, kp, hb⟩ := c.ex
  exact pe_call ok room hg hm kp hb .nil pass0 ha hdb he hpl
theorem pe_methC {pl : Sem Bool} (c : MetC X.prog X.w X.K X.mg X.base C m k ps sp) (cls : Cls X.K C) (room : Room k X.A) (ho : PE X o ta) (ha : PA X (e :: es) t)
    (hst : starEach (e :: es) X.env = (false, eval e X.env) :: starEach es X.env := by rfl) (hpl : (backTo pos (starEach es X.env)).any (·.1) = false := by rfl)
    (ht : eval (.Call (.Attribute o m apos) (e :: es) [] pos) X.env = (do
      let ov ← eval o X.env
      standAt apos.atName
      let (f, first) ← holding [ov] (getMethod ov m pl)
      callWith pos f first (backTo pos (starEach (e :: es) X.env)) (backToKw pos (keywordEach [] X.env))) := by rfl) :
    PE X (.Call (.Attribute o m apos) (e :: es) [] pos) (tMeth C m sp [] E0 ta t) := by
  obtain ⟨f, fd, ok, hm, hb⟩ := c.ex
  exact pe_meth ho cls hm ok room hb .nil pass0 ha hst hpl ht
theorem pe_propC (c : PrpC X.prog X.w X.K X.mg X.base C m k ps sp) (cls : Cls X.K C) (room : Room (k + 1) X.A) (he : PE X e ta) (hab : attributeBase e m X.env (eval e X.env) = eval e X.env := by rfl) :
    PE X (.Attribute e m pos) (tProp C sp [] E0 ta) := by
  obtain ⟨q, g, fd, ok, hp, hb⟩ := c.ex
  exact pe_prop he cls hp ok room hb .nil pass0 hab
theorem pe_makeC (c : MakC X.prog X.w X.K X.mg X.base C k ps sp) (room : Room (k + 1) X.A) (hg : Gl X x) (hm : X.mg x = some (.ref C)) (ha : PA X (e :: es) t) (hdb : (x == ("__debug__" : Str)) = false := by decide)
    (he : starEach (e :: es) X.env = (false, eval e X.env) :: starEach es X.env := by rfl) (hpl : (backTo pos (starEach es X.env)).any (·.1) = false := by rfl) :
    PE X (.Call (.Name x p) (e :: es) [] pos) (tMake C sp [] E0 t) := by
  obtain ⟨f, fd, ok, M, hb⟩ := c.ex
  exact pe_make M ok room hg hm hb .nil pass0 ha hdb he hpl
theorem op_ownC {op : Operator} (c : MetC X.prog X.w X.K X.mg X.base C m k ps sp) (room : Room k X.A) (first : PySem.W.selfFirst X.K C = true) (name : PySem.dunder op.info.2 = m := by rfl) : OpR X (binaryOp op) (rOwn C sp E0) := by
  obtain ⟨f, fd, ok, M, hb⟩ := c.ex
  exact op_own (Runs.of ok room hb pass0) first (name ▸ M.at_) M.fn
theorem op_eqC (c : MetC X.prog X.w X.K X.mg X.base C "__eq__" k ps sp) (room : Room k X.A) (first : PySem.W.notFirst X.K C (.ref C) = true) : OpR X (compareOp .Eq) (rOwn C sp E0) := by
  obtain ⟨f, fd, ok, M, hb⟩ := c.ex
  exact op_ownEq (Runs.of ok room hb pass0) room.units0 first M.at_ M.fn
theorem op_neC (c : MetC X.prog X.w X.K X.mg X.base C "__eq__" k ps sp) (room : Room (k + 1) X.A) (first : PySem.W.notFirst X.K C (.ref C) = true) (ne : PySem.W.findIn X.K (.ref C) "__ne__" = some (some (.builtin "object.__ne__")))
    (under : PySem.W.subIn X.K (.ref C) (.type "object") = some true) : OpR X (compareOp .NotEq) (rOwnNe C sp E0) := by
  obtain ⟨f, fd, ok, M, hb⟩ := c.ex
  exact op_ownNe (Runs1.of ok room hb pass0) (by have := room.units; omega) first ne under M.at_ M.fn
end
/-- a property that hands out a field -/
theorem _root_.L2.Fun.getter {P : Program} {w : World} {K : PySem.W.Frag} {mg : Str → Option Value} {base : Heap} {x qual g : Str} {st : Stmt} {f C : Addr} {fd : FuncData} {N : List Str} {p1 p2 p3 : Pos} (F : Fun K x qual st f fd)
    (S : FnScope N ["self"] (defScope st)) (c : Cls K C) (n : NoAttr K C g) (hN : N[0]? = some ("self" : Str) := by rfl) (body : defBody st = [.Return (some (.Attribute (.Name "self" p1) g p2)) p3] := by rfl) : FnOk P w K mg base CX0 1 f fd ["self"] (getSp C g) := by
  obtain ⟨oc, od, kV, doc, pm, an, cv, ct, osl, rfl, found, isCode⟩ := F.ex
  exact fn_getter found isCode S hN body c n
section
variable {X : Cx} {x : Str} {k : Nat} {ps : List Str} {sp : Sp} {e : Expr} {es : List Expr} {tf : TE} {t : TA} {p pos : Pos} {C : Addr}
/-- x(e, ..), x a name of the def that holds the class -/
def tMakeV (C : Addr) (sp : Sp) (tf : TE) (t : TA) : TE := fun σ H Q => tf σ H fun v H1 => v = .ref C ∧ tMake C sp [] E0 t σ H1 Q
theorem pe_makeV (c : MakC X.prog X.w X.K X.mg X.base C k ps sp) (room : Room (k + 1) X.A) (hf : PE X (.Name x p) tf) (ha : PA X (e :: es) t)
    (he : starEach (e :: es) X.env = (false, eval e X.env) :: starEach es X.env := by rfl) (hpl : (backTo pos (starEach es X.env)).any (·.1) = false := by rfl) :
    PE X (.Call (.Name x p) (e :: es) [] pos) (tMakeV C sp tf t) := by
  obtain ⟨f, fd, ok, M, hb⟩ := c.ex
  refine ⟨fun pins s σ H Q I h => wpAny_Call_Name_kw (thn (hf.run pins s σ H _ I h) fun g s0 got => ?_)⟩
  obtain ⟨v, H0, I0, r0, rfl, q0⟩ := got
  cases r0
  exact PySem.W.callWith_K (h₀ := X.base) I0.ok.mod.kin M.kp (thn (ha.run pos pins s0 σ H0 _ I0 q0) fun us s1 ⟨vs, H1, I1, r, q⟩ => ⟨I1.kIn, run_make M ok room hb .nil pass0 I1 r q⟩) he hpl
end

/-! ### max of a list of ints, with a default -/
section
variable {prog : Program} {w : World} {A : Around} {E : Value → Shared → Prop} {s : Shared}
theorem gt_pair {a b : Int} {t u : Tok} {Q : Value → Shared → Prop} (h : Q (.bool (decide (a > b))) s) : wpAny (model prog w) A (richCompare .Gt (.int a t) (.int b u)) Q E s := by
  refine CmpOf.ints_gt (P := fun i v => (i = 0 ∧ v = .int a t) ∨ (i = 1 ∧ v = .int b u)) (fun i => if i = 0 then a else b) ?_ 0 1 _ _ s Q E (.inl ⟨rfl, rfl⟩) (.inr ⟨rfl, rfl⟩) h
  rintro i v (⟨rfl, rfl⟩ | ⟨rfl, rfl⟩)
  · exact ⟨t, rfl⟩
  · exact ⟨u, rfl⟩
/-- the greatest of b and of f j, .., k of them -/
def topOf (f : Nat → Int) : Int → Nat → Nat → Int
  | b, _, 0 => b
  | b, j, k + 1 => topOf f (if f j > b then f j else b) (j + 1) k
theorem topOf_ge (f : Nat → Int) : ∀ (k j : Nat) (b : Int), b ≤ topOf f b j k ∧ ∀ i, i < k → f (j + i) ≤ topOf f b j k
  | 0, _, b => ⟨Int.le_refl _, fun i h => absurd h (Nat.not_lt_zero _)⟩
  | k + 1, j, b => by
    obtain ⟨h1, h2⟩ := topOf_ge f k (j + 1) (if f j > b then f j else b)
    have h0 : b ≤ (if f j > b then f j else b) ∧ f j ≤ (if f j > b then f j else b) := by
      by_cases h : f j > b
      · rw [if_pos h]
        omega
      · rw [if_neg h]
        omega
    refine ⟨Int.le_trans h0.1 h1, fun i hi => ?_⟩
    cases i with
    | zero => exact Int.le_trans h0.2 h1
    | succ i =>
      have := h2 i (by omega)
      rw [show j + 1 + i = j + (i + 1) by omega] at this
      exact this
theorem topOf_mem (f : Nat → Int) : ∀ (k j : Nat) (b : Int), topOf f b j k = b ∨ ∃ i, i < k ∧ topOf f b j k = f (j + i)
  | 0, _, _ => .inl rfl
  | k + 1, j, b => by
    show topOf f (if f j > b then f j else b) (j + 1) k = b ∨ _
    rcases topOf_mem f k (j + 1) (if f j > b then f j else b) with h | ⟨i, hi, h⟩
    · by_cases q : f j > b
      · rw [if_pos q] at h
        exact .inr ⟨0, Nat.succ_pos k, by show topOf f (if f j > b then f j else b) (j + 1) k = f j; rw [if_pos q]; exact h⟩
      · rw [if_neg q] at h
        exact .inl (by rw [if_neg q]; exact h)
    · exact .inr ⟨i + 1, Nat.succ_lt_succ hi, by show topOf f (if f j > b then f j else b) (j + 1) k = f (j + (i + 1)); rw [h]; congr 1; omega⟩
def listObj (vs : Array Value) (c : Nat) : Obj := { cls := .type "list", dict := none, data := .seq vs c, slots := #[] }
variable {R : Result → Shared → Prop} {I best : Addr} {fp wr : List Addr} {n : Nat} {P : Nat → Value → Prop} {St : Nat → Heap → Prop}
theorem max_name : (toString "max" ++ toString ".loop" : String) = "max.loop" := by decide
/-- behind the first item -/
theorem maxd_rest (W : Walks prog w A.in1 I fp wr n P St) (f : Nat → Int) (num : ∀ j v, P j v → ∃ t, v = .int (f j) t) (apart : best ∉ fp) (kw : List (Str × Value)) :
    ∀ (k j : Nat) (t : Shared) (b : Int) (u : Tok) (c : Nat), n = j + k → St j t.heap → t.heap.get? best = some (listObj #[.int b u, .int b u] c) →
      (∀ u' h' tk, (∀ a o, a ∉ wr → a ≠ best → t.heap.get? a = some o → h'.get? a = some o) → R (.ok (.ret (.int (topOf f b j k) u'))) { t with heap := h', toks := tk }) →
      codeAny (model prog w) A (.builtin "max.loop" ⟨[.ref I, .none, .ref best], kw⟩) R t
  | 0, j, t, b, u, c, e, st, there, fin => by
    have notWr : best ∉ wr := fun z => apart (W.sub _ z)
    refine codeAny_builtin PySem.F.entry_max_loop ?_
    rw [Around.under_plainId PySem.F.plain_max_loop _]
    show wpAny _ A.in1 (seqItems? (.ref best) >>= _) _ _ t
    refine wpAny_bind (wpAny_seqItems there
      rfl ?_)
    show wpAny _ A.in1 (tryCatch (pyNext (.ref I)) _ >>= _) _ _ t
    have st' : St n t.heap := by rw [e]; exact st
    refine wpAny_bind (wpAny_tryCatch (W.done t _ _ st' fun h1 tk1 old => ?_))
    have there1 := old best _ notWr there
    show wpAny _ A.in1 (updateSeq best (fun _ => #[]) >>= _) _ _ _
    refine wpAny_bind (wpAny_updateSeq there1 rfl (wpAny_bind
      (wpAny_letGo (wpAny_pure ?_))))
    exact fin u _ tk1 fun a o na nb q => (Heap.get?_update_other _ _ (Ne.symm nb)).trans (old a o na q)
  | k + 1, j, t, b, u, c, e, st, there, fin => by
    have notWr : best ∉ wr := fun z => apart (W.sub _ z)
    refine codeAny_builtin PySem.F.entry_max_loop ?_
    rw [Around.under_plainId PySem.F.plain_max_loop _]
    show wpAny _ A.in1 (seqItems? (.ref best) >>= _) _ _ t
    refine wpAny_bind (wpAny_seqItems there
      rfl ?_)
    show wpAny _ A.in1 (tryCatch (pyNext (.ref I)) _ >>= _) _ _ t
    refine wpAny_bind (wpAny_tryCatch (W.item j t _ _ (by omega) st fun v h1 tk1 pv st1 old => ?_))
    obtain ⟨tv, rfl⟩ := num j v pv
    have there1 := old best _ notWr there
    show wpAny _ A.in1 (tryCatch (holding [Value.int (f j) tv, Value.int (f j) tv] (richCompare .Gt (.int (f j) tv) (.int b u) >>= _)) _ >>= _) _ _ _
    refine wpAny_bind (wpAny_tryCatch (wpAny_holding (wpAny_bind (gt_pair ?_))))
    refine wpAny_bind (wpAny_holding (wpAny_truthy_bool ?_))
    refine wpAny_bind (wpAny_letGo (wpAny_pure ?_))
    by_cases gt : f j > b
    · have top : topOf f b j (k + 1) = topOf f (f j) (j + 1) k := by
        show topOf f (if f j > b then f j else b) (j + 1) k = _
        rw [if_pos gt]
      rw [decide_eq_true gt]
      simp only [if_true]
      refine wpAny_bind (wpAny_updateSeq there1 rfl (wpAny_bind
        (wpAny_letGo ?_)))
      rw [max_name]
      refine wpAny_pure ⟨plainId_quiet PySem.F.plain_max_loop _, maxd_rest W f num apart kw k (j + 1) _ (f j) tv _ (by omega) (W.frame _ _ _ st1 fun a na o q => ?_) (Heap.get?_update_self _ there1 rfl) fun u' h' tk later => ?_⟩
      · exact (Heap.get?_update_other _ _ (fun z : best = a => apart (by rw [z]; exact na))).trans q
      · rw [← top]
        exact fin u' h' tk fun a o na nb q => later a o na nb ((Heap.get?_update_other _ _ (Ne.symm nb)).trans (old a o na q))
    · have top : topOf f b j (k + 1) = topOf f b (j + 1) k := by
        show topOf f (if f j > b then f j else b) (j + 1) k = _
        rw [if_neg gt]
      rw [decide_eq_false gt]
      simp only [Bool.false_eq_true, if_false]
      refine wpAny_bind (wpAny_letGo ?_)
      rw [max_name]
      refine wpAny_pure ⟨plainId_quiet PySem.F.plain_max_loop _, maxd_rest W f num apart kw k (j + 1) _ b u c (by omega) st1 there1 fun u' h' tk later => ?_⟩
      rw [← top]
      exact fin u' h' tk fun a o na nb q => later a o na nb (old a o na q)
theorem args_maxd (a d : Value) : argsOk "max" ⟨[a], [("default", d)]⟩ := by
  unfold argsOk
  kernel_rfl
/-- the loop from its start -/
theorem maxd_loop (W : Walks prog w A.in1 I fp wr n P St) (f : Nat → Int) (num : ∀ j v, P j v → ∃ t, v = .int (f j) t) (apart : best ∉ fp) {z : Int} {tz : Tok} {kn : Str} (t : Shared) (c : Nat) (st : St 0 t.heap) (there : t.heap.get? best = some (listObj #[] c))
    (fin : ∀ m u h' tk, (∀ a o, a ∉ wr → a ≠ best → t.heap.get? a = some o → h'.get? a = some o) → (n = 0 → m = z) → (0 < n → (∃ i, i < n ∧ m = f i) ∧ ∀ i, i < n → f i ≤ m) → R (.ok (.ret (.int m u))) { t with heap := h', toks := tk }) :
    codeAny (model prog w) A (.builtin "max.loop" ⟨[.ref I, .none, .ref best], [(kn, .int z tz)]⟩) R t := by
  have notWr : best ∉ wr := fun z => apart (W.sub _ z)
  refine codeAny_builtin PySem.F.entry_max_loop ?_
  rw [Around.under_plainId PySem.F.plain_max_loop _]
  show wpAny _ A.in1 (seqItems? (.ref best) >>= _) _ _ t
  refine wpAny_bind (wpAny_seqItems there
    rfl ?_)
  show wpAny _ A.in1 (tryCatch (pyNext (.ref I)) _ >>= _) _ _ t
  cases e : n with
  | zero =>
    subst e
    refine wpAny_bind (wpAny_tryCatch (W.done t _ _ st fun h1 tk1 old => ?_))
    refine wpAny_bind (wpAny_rule (wpAny_pure ?_))
    exact fin z tz h1 tk1 (fun a o na _ q => old a o na q) (fun _ => rfl) fun h => absurd h (Nat.lt_irrefl 0)
  | succ k =>
    refine wpAny_bind (wpAny_tryCatch (W.item 0 t _ _ (by omega) st fun v h1 tk1 pv st1 old => ?_))
    obtain ⟨tv, rfl⟩ := num 0 v pv
    have there1 := old best _ notWr there
    show wpAny _ A.in1 (updateSeq best (fun _ => #[Value.int (f 0) tv, Value.int (f 0) tv]) >>= _) _ _ _
    refine wpAny_bind (wpAny_updateSeq there1
      rfl ?_)
    rw [max_name]
    refine wpAny_pure ⟨plainId_quiet PySem.F.plain_max_loop _, maxd_rest W f num apart [(kn, .int z tz)] k 1 _ (f 0) tv _ (by omega) (W.frame _ _ _ st1 fun a na o q => ?_) (Heap.get?_update_self _ there1 rfl) fun u' h' tk later => ?_⟩
    · exact (Heap.get?_update_other _ _ (fun z : best = a => apart (by rw [z]; exact na))).trans q
    · refine fin _ u' h' tk (fun a o na nb q => later a o na nb ((Heap.get?_update_other _ _ (Ne.symm nb)).trans (old a o na q))) (fun h => by omega) fun _ => ?_
      obtain ⟨g1, g2⟩ := topOf_ge f k 1 (f 0)
      refine ⟨?_, fun i hi => ?_⟩
      · rcases topOf_mem f k 1 (f 0) with h | ⟨i, hi, h⟩
        · exact ⟨0, by omega, h⟩
        · exact ⟨1 + i, by omega, h⟩
      · cases i with
        | zero => exact g1
        | succ i =>
          have := g2 i (by omega)
          rw [show 1 + i = i + 1 by omega] at this
          exact this
theorem ints_get : ∀ {its : List Value} {ns : List Int}, IntsAre its ns → ∀ (j : Nat) (v : Value), its[j]? = some v → ∃ t, v = .int (ns.getD j 0) t
  | _, _, .nil, j, v, h => by simp at h
  | _, _, .cons k t r, 0, v, h => ⟨t, (Option.some.inj h).symm⟩
  | _, _, .cons k t r, j + 1, v, h => ints_get r j v h
theorem call_maxd {l : Addr} {its : List Value} {ns : List Int} {z : Int} {tz : Tok} {Q : Value → Shared → Prop} (calm : A.handled = none) (hl : s.heap.IsList l its.toArray) (nums : IntsAre its ns)
    (fin : ∀ m u h' tk, (∀ a o, s.heap.get? a = some o → h'.get? a = some o) → (ns = [] → m = z) → (ns ≠ [] → m ∈ ns ∧ ∀ y ∈ ns, y ≤ m) → Q (.int m u) { s with heap := h', toks := tk }) :
    wpAny (model prog w) A (call (.builtin "max") [.ref l] [("default", .int z tz)]) Q E s := by
  have ok : checkBuiltinCall "max" ⟨[.ref l], [("default", .int z tz)]⟩ = pure () := by
    simp only [checkBuiltinCall, PySem.F.kind_max]
    have h := args_maxd (.ref l) (.int z tz)
    cases e : Manifest.signature? "max" with
    | none => rfl
    | some sig =>
      simp only [argsOk, e] at h
      exact h
  refine wpAny_call (codeAny_call_builtin PySem.F.plain_max PySem.F.entry_max ?_)
  rw [ok]
  refine wpAny_pure ?_
  show wpAny _ A.in1 (Builtin.Builtins.bindParams "max" ["key", "default"] 0 ⟨[], [("default", .int z tz)]⟩ >>= _) _ _ s
  refine wpAny_bind (wpAny_of_eq (show Builtin.Builtins.bindParams "max" ["key", "default"] 0 ⟨[], [("default", .int z tz)]⟩ = pure [none, some (.int z tz)] from rfl) ?_)
  refine wpAny_bind (wpAny_pure ?_)
  have lt : l < s.heap.objs.size := by
    obtain ⟨_, e, _⟩ := hl
    exact Heap.lt_size e
  have len := nums.length
  refine wpAny_bind (wpAny_pyIter_list hl ?_)
  refine wpAny_bind (wpAny_newObj_type ?_)
  rw [max_name]
  have W := Walks.list (prog := prog) (w := w) (A := A.in1) calm s.heap.objs.size l (Nat.ne_of_lt lt) its.toArray
  refine wpAny_pure ⟨plainId_quiet PySem.F.plain_max_loop _, ?_⟩
  refine maxd_loop W (fun i => ns.getD i 0) (fun j v hv => ?_) ?_ _ 0 ?_ (Heap.get?_push_size _ rfl) fun m u h' tk old h0 h1 => ?_
  · exact ints_get nums j v (by simpa using hv)
  · intro hm
    simp only [List.mem_cons, List.not_mem_nil, or_false, Heap.size_push] at hm
    rcases hm with h | h
    · exact absurd h (Nat.succ_ne_self _)
    · exact absurd h (Nat.ne_of_gt (Nat.lt_succ_of_lt lt))
  · exact ⟨⟨_, Heap.get?_push_of_some _ (Heap.get?_push_size _ rfl), rfl, rfl⟩, (hl.push _).push _⟩
  · have size : its.toArray.size = ns.length := by rw [List.size_toArray]; exact len
    refine fin m u h' tk (fun a o q => ?_) (fun e => h0 (by rw [size, e]; rfl)) fun ne => ?_
    · have la : a < s.heap.objs.size := Heap.lt_size q
      refine old a o (fun hm => ?_) (fun e => ?_) (Heap.get?_push_of_some _ (Heap.get?_push_of_some _ q))
      · rw [List.mem_singleton.mp hm] at la
        exact absurd la (Nat.lt_irrefl _)
      · rw [e] at la
        exact absurd (Nat.lt_of_lt_of_le la (by rw [Heap.size_push]; exact Nat.le_succ _)) (Nat.lt_irrefl _)
    · obtain ⟨⟨i, hi, e⟩, top⟩ := h1 (by rw [size]; exact List.length_pos_iff.mpr ne)
      rw [size] at hi top
      refine ⟨?_, fun y hy => ?_⟩
      · rw [e, List.getD_eq_getElem?_getD, List.getElem?_eq_getElem hi]
        exact List.getElem_mem hi
      · obtain ⟨j, hj, e⟩ := List.getElem_of_mem hy
        have := top j hj
        rw [List.getD_eq_getElem?_getD, List.getElem?_eq_getElem hj] at this
        rw [← e]
        exact this
end
section
variable {X : Cx} {e d : Expr} {ta td : TE} {p pos kpos : Pos}
/-- max(e, default=d) -/
def tMaxD (K : PySem.W.Frag) (ta td : TE) : TE := fun σ H Q => ta σ H fun x H1 => tCons td tNil σ H1 fun vs H2 => ∃ y, vs = [y] ∧ ∃ (a : Addr) (ns : List Int) (z : Int), x = .ref a ∧ y = .int z ∧ SqL K H2 a (ns.map V.int) ∧
  ∀ m, (ns = [] → m = z) → (ns ≠ [] → m ∈ ns ∧ ∀ y ∈ ns, y ≤ m) → Q (.int m) H2
theorem pe_maxD (calm : X.calm = true) (hg : Gl X "max") (hm : X.mg "max" = none) (ha : PE X e ta) (hd : PE X d td) (hs : starEach [e] X.env = (false, eval e X.env) :: starEach [] X.env := by rfl)
    (he : backTo pos (starEach [e] X.env) = (false, eval e X.env) :: backTo pos (starEach [] X.env) := by rfl) (hp : (backTo pos (starEach [e] X.env)).any (·.1) = false := by rfl)
    (hall : (backToKw pos (keywordEach [⟨some "default", d, kpos⟩] X.env)).all (·.1.isSome) = true := by rfl) (hkw : (backToKw pos (keywordEach [⟨some "default", d, kpos⟩] X.env)).any (·.1.isNone) = false := by rfl)
    (hn : (backToKw pos (keywordEach [⟨some "default", d, kpos⟩] X.env)).filterMap (·.1) = [("default" : Str)] := by rfl) :
    PE X (.Call (.Name "max" p) [e] [⟨some "default", d, kpos⟩] pos) (tMaxD X.K ta td) := by
  refine ⟨fun pins s σ H Q I h => ?_⟩
  refine wpAny_Call_Name_kw (ld_blt I hg hm (show bootBuiltins "max" = some (.builtin "max") by decide +kernel) ?_)
  refine PyProof.Rows.callWith_kw (id := "max") ?_ he hp hall hkw
  rw [hs]
  show wpAny _ _ (spliced ((false, eval e X.env) :: backTo pos (starEach [] X.env))) _ _ s
  refine Calls.spliced_cons (thn (ha.run pins s σ H _ I h) fun u s1 ⟨x, H1, I1, r1, q1⟩ => ?_)
  refine Calls.spliced_nil ?_
  refine thn ((pk_cons (nm := some "default") (kpos := kpos) hd (pk_nil (X := X))).run pos pins s1 σ H1 (fun vs H2 => ∃ y, vs = [y] ∧ ∃ (a : Addr) (ns : List Int) (z : Int), x = .ref a ∧ y = .int z ∧ SqL X.K H2 a (ns.map V.int) ∧
    ∀ m, (ns = [] → m = z) → (ns ≠ [] → m ∈ ns ∧ ∀ y ∈ ns, y ≤ m) → Q (.int m) H2) I1 q1) ?_
  · rintro us s2 ⟨vs, H2, I2, rv, y, rfl, a, ns, z, rfl, rfl, hl, q⟩
    rw [hn]
    cases rv with
    | cons r2 r3 =>
      cases r3
      obtain ⟨tz, rfl⟩ := r2
      cases r1
      obtain ⟨its, ri, pl, _⟩ := I2.list hl
      show wpAny _ _ (call (.builtin "max") [.ref a] [("default", .int z tz)]) _ _ _
      exact call_maxd (I2.ok.hd calm) pl.isList ri.ints fun m u h' tk old h0 h1 => ⟨.int m, H2, I2.kept old, ⟨u, rfl⟩, q m h0 h1⟩
end


end My
namespace My
open PySem PySem.Spec PyProof.Rows L2 TL
/-! ### len, [], an operator with an int, of an own class; classmethods -/
section
variable {X : Cx} {k : Nat} {f C : Addr} {ps : List Str} {sp : Sp} {E : XK} {e o b : Expr} {es : List Expr} {x m : Str} {ta tb : TE} {t : TA} {p pos apos : Pos}
def rLenO (C : Addr) (sp : Sp) : List V → Hp → VK → Prop := fun xs H Q => ∃ a dx fs, xs = [.ref a] ∧ H a = some (.ins C dx fs) ∧ sp [.ref a] H (fun v H' => ∃ n : Nat, v = .int n ∧ (n : Int) < 2 ^ 63 ∧ Q (.int n) H') E0
theorem call_lenO (c : MetC X.prog X.w X.K X.mg X.base C "__len__" k ps sp) (room : Room (k + 1) X.A) : CallR X (.builtin "len") (rLenO C sp) := by
  obtain ⟨f, fd, ok, M, hb⟩ := c.ex
  intro pins s σ H xs us Q I r h
  obtain ⟨a, dx, fs, rfl, ha, q⟩ := h
  rw [Vals.ref1 r]
  obtain ⟨od, J⟩ := inst_at I ha
  obtain ⟨mm, fr⟩ := I.fr
  refine PySem.W.len_K fr I.ok.mod.kin J M.at_ M.fn ?_
  refine wpAny_mono (Runs1.of ok room hb pass0 pins σ H s _ [.ref a] [.ref a] I (.cons rfl .nil) q) (fun u s' z => ?_) fun _ _ z => z
  obtain ⟨v, H', I', rv, n, rfl, hn, q'⟩ := z
  obtain ⟨tk, rfl⟩ := rv
  exact ⟨⟨Int.natCast_nonneg n, hn⟩, .int n, H', I'.tok _, ⟨_, rfl⟩, q'⟩
def rIxO (C : Addr) (sp : Sp) : R2 := fun x y H Q => ∃ a dx fs, x = .ref a ∧ H a = some (.ins C dx fs) ∧ sp [x, y] H Q E0
theorem pe_ixO (c : MetC X.prog X.w X.K X.mg X.base C m k ps sp) (room : Room (k + 1) X.A) (ha : PE X o ta) (hi : PE X b tb) (fn : ∀ f, Meth X.K C m f → PySem.W.fnIn X.K f = true) (hm : m = "__getitem__" := by rfl)
    (hsl : ∀ (x : Addr) (i : Value), subscripted b true (.ref x) i = runValue (.builtin "lifetime.subscript" ⟨[.ref x, i], []⟩) := by intro _ _; with_unfolding_all rfl) : PE X (.Subscript o b pos) (tOp (rIxO C sp) ta tb) := by
  subst hm
  obtain ⟨f, fd, ok, M, hb⟩ := c.ex
  refine ⟨fun pins s σ H Q I h => ?_⟩
  refine Subscript_ (binT ha hi I h fun v u s2 x y H2 I2 rx ry q => ?_)
  obtain ⟨a, dx, fs, rfl, hx, q⟩ := q
  cases rx
  obtain ⟨od, J⟩ := inst_at I2 hx
  obtain ⟨mm, fr⟩ := I2.fr
  exact PySem.W.sub_K fr I2.ok.mod.kin J M.at_ (fn f M) M.fn (Runs1.of ok room hb pass0 pins σ H2 s2 _ [.ref a, u] [.ref a, y] I2 (.cons rfl (.cons ry .nil)) q) (hsl a u)
/-- x op i, i an int -/
structure OwnI (K : PySem.W.Frag) (C : Addr) (op : Operator) : Prop where
  first : PySem.W.selfFirst K C = true
  rev : ∃ rc, PySem.W.findIn K (.ref C) (PySem.dunderR op.info.2) = some rc ∧ (rc = none ∨ ∃ g : Addr, rc = some (.ref g))
  i1 : ∃ fo, PySem.W.findIn K (.type "int") (PySem.dunder op.info.2) = some fo
  i2 : ∃ ro, PySem.W.findIn K (.type "int") (PySem.dunderR op.info.2) = some ro
  sub : PySem.W.subIn K (.type "int") (.ref C) = some false
def rOwnI (C : Addr) (sp : Sp) : R2 := fun x y H Q => ∃ a dx fs, ∃ i : Int, x = .ref a ∧ y = .int i ∧ H a = some (.ins C dx fs) ∧ sp [x, y] H Q E0
theorem op_ownI {op : Operator} (c : MetC X.prog X.w X.K X.mg X.base C m k ps sp) (room : Room k X.A) (O : OwnI X.K C op) (name : PySem.dunder op.info.2 = m := by rfl) : OpR X (binaryOp op) (rOwnI C sp) := by
  obtain ⟨f, fd, ok, M, hb⟩ := c.ex
  intro pins s σ H x y u v Q I rx ry h
  obtain ⟨a, dx, fs, i, rfl, rfl, ha, q⟩ := h
  cases rx
  obtain ⟨tk, rfl⟩ := ry
  obtain ⟨od, J⟩ := inst_at I ha
  obtain ⟨mm, fr⟩ := I.fr
  obtain ⟨first, ⟨rc, r1, r2⟩, ⟨fo, i1⟩, ⟨ro, i2⟩, sub⟩ := O
  refine PySem.W.ksp_binT fr I.ok.mod.kin J (T := "int") rfl first (name ▸ M.at_) M.fn r1 r2 i1 i2 sub ?_
  exact wpAny_mono (Runs.of ok room hb pass0 pins σ H s Q [.ref a, .int i tk] [.ref a, .int i] I (.cons rfl (.cons ⟨tk, rfl⟩ .nil)) q) (fun _ _ z => ep_back z) fun _ _ z => z
/-- a classmethod by its promise -/
structure CmtC (P : Program) (w : World) (K : PySem.W.Frag) (mg : Str → Option Value) (base : Heap) (C : Addr) (m : Str) (k : Nat) (ps : List Str) (sp : Sp) : Prop where
  ex : ∃ f fd mc p, FnOk P w K mg base CX0 k f fd ps sp ∧ ClX.CRead K C mc ∧ ClX.CMet K C mc m p f ∧ Binds K fd ps []
theorem FnR.ofC {P : Program} {w : World} {K : PySem.W.Frag} {mg : Str → Option Value} {base : Heap} {k : Nat} {f : Addr} {fd : FuncData} {ps : List Str} {sp : Sp} (ok : FnOk P w K mg base CX0 k f fd ps sp) (hb : Binds K fd ps []) : FnR P w K mg base CX0 k f sp := by
  intro A outer s H us vs Q E hr e0 r h
  have there : K.In s.heap := e0.mod.kin.keeps (fun b o e => (e0.bs b o e).1)
  have len : (us ++ []).length = ps.length := by rw [List.append_nil, ← r.length]; exact ok.len _ _ _ _ h
  have hv := hb s us there len
  rw [List.append_nil] at hv
  exact ok.run A outer s H ⟨us, []⟩ us vs Q E hr e0 hv r h
theorem pe_cmethC {pl : Sem Bool} (c : CmtC X.prog X.w X.K X.mg X.base C m k ps sp) (room : Room k X.A) (ho : PE X o ta) (ha : PA X (e :: es) t)
    (hst : starEach (e :: es) X.env = (false, eval e X.env) :: starEach es X.env := by rfl) (hpl : (backTo pos (starEach es X.env)).any (·.1) = false := by rfl)
    (ht : eval (.Call (.Attribute o m apos) (e :: es) [] pos) X.env = (do
      let ov ← eval o X.env
      standAt apos.atName
      let (f, first) ← holding [ov] (getMethod ov m pl)
      callWith pos f first (backTo pos (starEach (e :: es) X.env)) (backToKw pos (keywordEach [] X.env))) := by rfl) :
    PE X (.Call (.Attribute o m apos) (e :: es) [] pos) (ClX.tCMeth C sp E0 ta t) := by
  obtain ⟨f, fd, mc, p, ok, hr, hm, hb⟩ := c.ex
  exact ClX.pe_cmeth ho hr hm (FnR.ofC ok hb) room pass0 ha hst hpl ht
end


end My
namespace My
open PySem PySem.Spec PyProof.Rows L2 TL
/-! ### == of an instance and anything; str of an instance -/
section
variable {X : Cx} {k : Nat} {f C : Addr} {ps : List Str} {sp : Sp} {E : XK}
def rOwnX (K : PySem.W.Frag) (C : Addr) (sp : Sp) (E : XK) : R2 := fun x y H Q => ∃ a dx fs t0, x = .ref a ∧ H a = some (.ins C dx fs) ∧ TyX K H y t0 ∧ PySem.W.notFirst K C t0 = true ∧ sp [x, y] H Q E
theorem op_eqX (c : MetC X.prog X.w X.K X.mg X.base C "__eq__" k ps sp) (room : Room k X.A) : OpR X (compareOp .Eq) (rOwnX X.K C sp E0) := by
  obtain ⟨f, fd, ok, M, hb⟩ := c.ex
  intro pins s σ H x y u v Q I rx ry h
  obtain ⟨a, dx, fs, t0, rfl, ha, ty, hn, q⟩ := h
  cases rx
  obtain ⟨od, J⟩ := inst_at I ha
  obtain ⟨m, fr⟩ := I.fr
  obtain ⟨Ph, Z, p, hx⟩ := kit_of I ry ty
  refine PySem.W.cmp_K (op := .Eq) room.units0 fr I.ok.mod.kin J (Z.ty _ _ I.kIn p) hn M.at_ M.fn ?_
  exact wpAny_mono (Runs.of ok room hb pass0 pins σ H s Q [.ref a, v] [.ref a, y] I (.cons rfl (.cons ry .nil)) q) (fun _ _ z => ep_back z) fun _ _ z => z
def rStrO (C : Addr) (sp : Sp) : List V → Hp → VK → Prop := fun xs H Q => ∃ a dx fs, xs = [.ref a] ∧ H a = some (.ins C dx fs) ∧ sp [.ref a] H (fun v H' => ∃ y, v = .str y ∧ Q (.str y) H') E0
theorem call_strO (c : MetC X.prog X.w X.K X.mg X.base C "__str__" k ps sp) (room : Room (k + 2) X.A) : CallR X (.type "str") (rStrO C sp) := by
  obtain ⟨f, fd, ok, M, hb⟩ := c.ex
  intro pins s σ H xs us Q I r h
  obtain ⟨a, dx, fs, rfl, ha, q⟩ := h
  rw [Vals.ref1 r]
  obtain ⟨od, J⟩ := inst_at I ha
  refine PySem.W.kso_call (by have := room.units; show X.A.units + 1 + 1 < cLine; omega) I.kIn J M.at_ M.fn ?_
  have len : [Value.ref a].length = ps.length := ok.len _ _ _ _ q
  have ran := ok.run X.A.in1.in1 X.stack s H ⟨[.ref a], []⟩ [Value.ref a] [V.ref a] _ E0 room.in1.in1 I.env0.in1.in1 (hb s [.ref a] I.kIn len) (.cons rfl .nil) q
  refine wpAny_call (codeAny_mono ran ?_)
  intro r s' h
  match r, h with
  | .error e, h => exact pass0 pins σ H s e s' I h
  | .ok (.ret u), h =>
    obtain ⟨v, H', I', rv, y, rfl, q'⟩ := I.after h
    obtain ⟨tk, rfl⟩ := rv
    exact ⟨.str y, H', I', ⟨tk, rfl⟩, q'⟩
  | .ok .next, h => exact False.elim h
  | .ok .brk, h => exact False.elim h
  | .ok .cont, h => exact False.elim h
end


end My
namespace My
open PySem PySem.Spec PyProof.Rows L2 TL
/-! ### try: .. with several clauses, some of them with a name -/
/-- the ends of a suite whose clause has the name at i -/
def endsAs (D : Ends) (i : Nat) : Ends := ⟨fun τ G => D.nx (τ.set i none) G, D.rt, fun τ G => D.bk (τ.set i none) G, fun τ G => D.ct (τ.set i none) G⟩
/-- a clause: its class, the place of its name, its suite -/
structure Clause where
  cls : Value
  nm : Option Nat
  ts : Addr → Value → Option Addr → TS
def Clause.go (z : Clause) (D : Ends) (a : Addr) (k : Value) (d : Option Addr) (σ : L2.St) (H : Hp) : Prop :=
  match z.nm with
  | none => z.ts a k d D σ H
  | some i => z.ts a k d (endsAs D i) (σ.set i (some (.ref a))) H
def wMix (K : PySem.W.Frag) (Wout : WX) (D : Ends) : List Clause → WX
  | [] => Wout
  | z :: r => fun k d σ H => ∃ b, PySem.W.exmOne K k z.cls = some b ∧ (b = true → ∀ a, H a = none → z.go D a k d σ H) ∧ (b = false → wMix K Wout D r k d σ H)
/-- the clauses, as they stand -/
inductive ClsOk (X : Cx) : List ExceptHandler → List Clause → Prop
  | nil : ClsOk X [] []
  | plain {x : Str} {c : Value} {ts : Addr → Value → Option Addr → TS} {b₀ : Stmt} {suite : List Stmt} {np pp : PySem.Pos} {hds : List ExceptHandler} {l : List Clause} (named : Names X x c)
      (runs : ∀ (a : Addr) (oe : Obj) (k : Value) (d : Option Addr) (pn : List (Addr × Obj)), Zc k d oe → (∃ vs, oe.data = .fields vs) → PSs (X.suite a ((a, oe) :: pn)) (b₀ :: suite) (ts a k d)) (rest : ClsOk X hds l) :
      ClsOk X (.ExceptHandler (some (.Name x np)) none (b₀ :: suite) pp :: hds) (⟨c, none, ts⟩ :: l)
  | bound {x n : Str} {c : Value} {i : Nat} {ts : Addr → Value → Option Addr → TS} {b₀ : Stmt} {suite : List Stmt} {np pp : PySem.Pos} {hds : List ExceptHandler} {l : List Clause} (at_ : X.N[i]? = some n) (lcl : X.env.kindOf n = some .local) (named : Names X x c)
      (runs : ∀ (a : Addr) (oe : Obj) (k : Value) (d : Option Addr) (pn : List (Addr × Obj)), Zc k d oe → (∃ vs, oe.data = .fields vs) → PSs (X.suite a ((a, oe) :: pn)) (b₀ :: suite) (ts a k d)) (rest : ClsOk X hds l) :
      ClsOk X (.ExceptHandler (some (.Name x np)) (some n) (b₀ :: suite) pp :: hds) (⟨c, some i, ts⟩ :: l)
section
variable {X : Cx} {body : List Stmt} {h₀ : ExceptHandler} {hds : List ExceptHandler} {l : List Clause} {pos : PySem.Pos} {tb : WX → TS} {Wout : WX}
theorem ps_try_mix (hs : X.stack = X.env :: X.outer) (hf : X.env.frame = some X.env.locals) (nd : X.N.Nodup) (tk : L2.Takes X Wout)
    (hb : ∀ (W : WX) (pn : List (Addr × Obj)) (xe : Value → Shared → Prop), L2.Takes (X.tr pn xe) W → PassesOwn (model X.prog X.w) X.A X.env xe → PSs (X.tr pn xe) body (tb W))
    (cl : ClsOk X (h₀ :: hds) l) : PS X (.Try body (h₀ :: hds) [] [] pos) (fun D σ H => tb (wMix X.K Wout D l) D σ H) := by
  refine ⟨fun pins s σ H D I h => ?_⟩
  have ok := I.ok
  have fr : X.A.frames = some (X.env :: X.outer) := by rw [ok.frames, hs]
  let xe : Value → Shared → Prop := fun e s₁ => wpAny (model X.prog X.w) X.A (noteFrame e X.env) (fun _ s₂ => wpAny (model X.prog X.w) X.A (setFlight e none) (fun _ s₃ => wpAny (model X.prog X.w) X.A (handleBy e X.env (h₀ :: hds)) (SP X pins D) X.xe s₃) X.xe s₂) X.xe s₁
  have caught : L2.Takes (X.tr (X.pn ++ pins) xe) (wMix X.K Wout D l) := fun u s' xx => by
    obtain ⟨a, B, sI, pins', τ, G, k, d, rfl, J', nb, up, sky, na, os, ag, w⟩ := xx
    have J : Inv X pins τ G sI := J'.ofTry ok
    have sky2 : L2.Sky B (X.env :: X.outer) a (Zc k d) X.env.locals s'.heap := by rw [← hs]; exact sky
    show wpAny (model X.prog X.w) X.A (noteFrame (.ref a) X.env) _ _ _
    refine L2.Sky.land Zc.steady fr hf sky2 fun h3 fl3 up3 => ?_
    have U3 := up.trans up3
    have J3 : Inv X pins τ G { s' with heap := h3 } := J.landed nb fl3.1 U3 os ag
    obtain ⟨oe3, vs3, he3, hz3, hd3⟩ := fl3.there
    have nfr : a ∉ frs (X.env :: X.outer) := fun hm => by
      obtain ⟨_, o', e', hnf⟩ := fl3.2.2.1.mem hm
      rw [he3] at e'; cases e'
      exact hnf _ hd3
    have nL : a ≠ X.env.locals := fun z => nfr (List.mem_filterMap.mpr ⟨X.env, List.mem_cons_self, by rw [hf, z]⟩)
    have nF : a ∉ X.fs := fun hm => by
      obtain ⟨e, he, q⟩ := List.mem_filterMap.mp hm
      exact nfr (List.mem_filterMap.mpr ⟨e, List.mem_cons_of_mem _ he, q⟩)
    have S3 := J3.suite he3 hd3 na nL nF
    have looked : ∀ {x : Str} {c : Value} {np : PySem.Pos} {Q E : Value → Shared → Prop}, Names X x c → Q c { s' with heap := h3 } → wpAny (model X.prog X.w) (X.A.mark (some (.ref a))) (eval (.Name x np) X.env) Q E { s' with heap := h3 } := fun {x c np Q E} hc q => by
      rcases hc with ⟨hg, hdbg, hm | ⟨hm, hv, hnn⟩⟩
      · exact ld_glob (X := X.suite a ((a, oe3) :: (X.pn ++ pins))) S3 hg hm q hdbg
      · exact ld_blt (X := X.suite a ((a, oe3) :: (X.pn ++ pins))) S3 hg hm hv q hnn hdbg
    have LT : PySem.W.Looks (model X.prog X.w) h3 (typeOf (.ref a)) k := fun A Q E s k2 q => wpAny_typeOf_ref (k2 _ _ he3) (by rw [hz3.1]; exact q)
    have down : ∀ {hs2 : List ExceptHandler} {l2 : List Clause}, ClsOk X hs2 l2 → wMix X.K Wout D l2 k d τ G → wpAny (model X.prog X.w) X.A (handleBy (.ref a) X.env hs2) (SP X pins D) X.xe { s' with heap := h3 } := by
      intro hs2 l2 ck
      induction ck with
      | nil =>
        refine fun w => wpAny_handleBy_nil ?_
        obtain ⟨k1, k2, k3, oe, vs, T, oT, ts', he, hz, hd, h1, hr⟩ := id fl3
        unfold PySem.passOn
        refine wpAny_bind (wpAny_field he hd h1 ?_)
        rw [if_neg (show ¬ ((Value.ref T == Value.none) = true) from by simp)]
        have fin : wpAny (model X.prog X.w) X.A (setFlight (.ref a) X.env.frame) (fun _ s4 => wpAny (model X.prog X.w) X.A (throw (.ref a) : Sem Flow) (SP X pins D) X.xe s4) X.xe { s' with heap := h3 } := by
          rw [hf]
          exact HandSPX.setFlight_upZ fl3 fun h4 hh4 up4 => wpAny_throw (tk _ _ ⟨a, B, sI, pins, τ, G, k, d, rfl, J, nb, U3.trans up4, .inr (.inr (by rw [hs]; exact hh4)), na, os, ag, w⟩)
        first
          | exact wpAny_bind (wpAny_pure (wpAny_bind fin))
          | exact wpAny_bind fin
      | @plain x c ts b₀ suite np pp hds2 l3 hc hsu r ih =>
        rintro ⟨b, hb1, yes, no⟩
        refine wpAny_handleBy_cons (codeAny_handlers_test ?_) (by intro q; cases q)
        refine looked hc ((PySem.W.exm_one (M := model X.prog X.w) J3.kIn LT hb1).here ?_)
        cases b with
        | true =>
          refine codeAny_handlers_suite (HandSPX.lands_againZ fl3 fun h4 fl4 up4 => ?_)
          have J4 : Inv X pins τ G { s' with heap := h4 } := J.landed nb fl4.1 (U3.trans up4) os ag
          obtain ⟨oe4, vs4, he4, hz4, hd4⟩ := fl4.there
          have S4 := J4.suite he4 hd4 na nL nF
          refine wpAny_mono ((hsu a oe4 k d (X.pn ++ pins) hz4 ⟨_, hd4⟩).run [] _ _ G _ S4 (yes rfl a na)) (fun f s6 z => ?_) (fun _ _ z => False.elim z)
          cases f with
          | next => obtain ⟨τ6, G6, S6, q6⟩ := z; exact ⟨τ6, G6, S6.unsuite ok, q6⟩
          | brk => obtain ⟨τ6, G6, S6, q6⟩ := z; exact ⟨τ6, G6, S6.unsuite ok, q6⟩
          | cont => obtain ⟨τ6, G6, S6, q6⟩ := z; exact ⟨τ6, G6, S6.unsuite ok, q6⟩
          | ret u => obtain ⟨v6, τ6, G6, S6, r6, q6⟩ := z; exact ⟨v6, τ6, G6, S6.unsuite ok, r6, q6⟩
        | false => exact ih (no rfl)
      | @bound x n c i ts b₀ suite np pp hds2 l3 hi hln hc hsu r ih =>
        rintro ⟨b, hb1, yes, no⟩
        refine wpAny_handleBy_cons (codeAny_handlers_test ?_) (by intro q; cases q)
        refine looked hc ((PySem.W.exm_one (M := model X.prog X.w) J3.kIn LT hb1).here ?_)
        cases b with
        | true =>
          refine codeAny_handlers_suite_as (HandSPX.lands_againZ fl3 fun h4 fl4 up4 => ?_)
          have J4 : Inv X pins τ G { s' with heap := h4 } := J.landed nb fl4.1 (U3.trans up4) os ag
          obtain ⟨oe4, vs4, he4, hz4, hd4⟩ := fl4.there
          have S4 := J4.suite he4 hd4 na nL nF
          refine store_ok (X := X.suite a ((a, oe4) :: (X.pn ++ pins))) (v := .ref a) S4 nd hi (.inl hln) rfl (fun s5 S5 => ?_) (.inr hln)
          refine wpAny_mono ((hsu a oe4 k d (X.pn ++ pins) hz4 ⟨_, hd4⟩).run [] s5 _ G _ S5 (yes rfl a na)) (fun f s6 z => ?_) (fun _ _ z => False.elim z)
          cases f with
          | next => obtain ⟨τ6, G6, S6, q6⟩ := z; exact gone_ok (S6.unsuite ok) nd hi hln fun s7 J7 => ⟨_, _, J7, q6⟩
          | brk => obtain ⟨τ6, G6, S6, q6⟩ := z; exact gone_ok (S6.unsuite ok) nd hi hln fun s7 J7 => ⟨_, _, J7, q6⟩
          | cont => obtain ⟨τ6, G6, S6, q6⟩ := z; exact gone_ok (S6.unsuite ok) nd hi hln fun s7 J7 => ⟨_, _, J7, q6⟩
          | ret u => obtain ⟨v6, τ6, G6, S6, r6, q6⟩ := z; exact gone_ok (S6.unsuite ok) nd hi hln fun s7 J7 => ⟨_, _, _, J7, r6, q6⟩
        | false => exact ih (no rfl)
    exact down cl w
  refine wpAny_Try_except (wpAny_mono ((hb (wMix X.K Wout D l) (X.pn ++ pins) xe caught PassesOwn.looking).run [] s σ H D (I.toTry _) h) (fun f s1 z => ?_) (fun e s1 he => he))
  cases f with
  | next => obtain ⟨τ, G, J', q⟩ := z; exact wpAny_execs_nil ⟨τ, G, J'.ofTry ok, q⟩
  | brk => obtain ⟨τ, G, J', q⟩ := z; exact ⟨τ, G, J'.ofTry ok, q⟩
  | cont => obtain ⟨τ, G, J', q⟩ := z; exact ⟨τ, G, J'.ofTry ok, q⟩
  | ret u => obtain ⟨v, τ, G, J', r, q⟩ := z; exact ⟨v, τ, G, J'.ofTry ok, r, q⟩
end


end My
namespace My
open PySem PySem.Spec PyProof.Rows L2 TL
/-! ### lambdas handed to a def that calls them, where what A.guards says is handed down -/
section
open LamX
variable {X : Cx} {pins : List (Addr × Obj)} {σ : L2.St} {H : Hp} {s : Shared}
/-- the lambda's own run, once it stands at f: called with nothing from the def g (whose context is entered at s) -/
theorem lam_ranG {qg : Str} {sg : Scope} {g f c' : Addr} {cdg pm ctv : Value} {params : Arguments} {body : Expr} {scope : Scope} {k : Nat} {E : XK} {tb : TE} {HZ : Hp} {s1 : Shared} {Q : VK}
    (I : Inv X pins σ H s) (L : LamS X.env.scope scope) (at_ : s1.heap.get? f = some (PySem.W.kla_obj "<lambda>" (X.env.qual ++ "<lambda>") params body scope (cloFrom X.env.cells scope.names []) pm c' ctv))
    (noArgs : bindArgs (PySem.W.kla_fn "<lambda>" (X.env.qual ++ "<lambda>") params body scope (cloFrom X.env.cells scope.names []) pm (.ref c') ctv) ⟨[], []⟩ = pure [])
    (room : Room (k + 1) (X.A.deeper (envOfC qg sg s.heap.objs.size g cdg))) (env1 : Env0 X.prog X.w X.K X.mg X.base (X.A.deeper (envOfC qg sg s.heap.objs.size g cdg)) (envOfC qg sg s.heap.objs.size g cdg :: X.stack) s1 HZ)
    (un : Un (frs X.stack) [] H HZ s.heap s1.heap) (lim : s1.heap.NoLimit) (code : HZ c' = some (CodeO c' (X.env.qual ++ "<lambda>"))) (okH : HOk X.prog X.w HZ s1.heap)
    (runs : PE (lamCx X (X.A.deeper (envOfC qg sg s.heap.objs.size g cdg)) (envOfC qg sg s.heap.objs.size g cdg :: X.stack) s1 HZ E scope f c') body tb) (wish : tb σ HZ Q) :
    codeAny (model X.prog X.w) (X.A.deeper (envOfC qg sg s.heap.objs.size g cdg)) (.call (.ref f) ⟨[], []⟩) (CR (L2.CX X.prog X.w) (envOfC qg sg s.heap.objs.size g cdg :: X.stack) X.prog X.w HZ s1 Q E) s1 := by
  obtain ⟨⟨oc, vs, tk, cAt, cData, cName⟩, _⟩ := okH c' _ code
  refine PySem.W.kla_callFunE room.depth at_ rfl L.co L.gen rfl ⟨c', oc, vs, tk, rfl, cAt, cData, cName⟩ ?_
  rw [noArgs]
  refine wpAny_pure (wpAny_newFunctionEnv (fun y hy => (L.own y hy).2) (fun y hy => by cases hy) (fun h2 fresh grown => ⟨lim.fresh _ grown, ?_⟩) L.kind)
  have kept : ∀ b o, s1.heap.get? b = some o → h2.get? b = some o := fun b o e => grown.extBut b o (Nat.ne_of_lt (Heap.lt_size e)) (Heap.get?_push_of_some _ e)
  have J := lam_start2 (f := f) (c' := c') (E := E) (tk := s1.toks + ([] : List (Str × Value)).length) I L env1 room.hd un fresh kept
  refine PySem.W.kla_codeExpr (wpAny_mono (runs.run [] _ _ HZ Q J wish) (fun u s2 z => ?_) fun _ _ z => z)
  obtain ⟨v, H2, J2, rel, q⟩ := z
  exact ⟨v, H2, J2.os, J2.bare, J2.base, J2.hok, rel, q⟩
/-- x(), in the def that got the lambda -/
theorem pe_actG {CXg : CXT} {Eg : XK} {Ng : List Str} {qg : Str} {sg : Scope} {g f c' : Addr} {cdg pm ctv : Value} {params : Arguments} {body : Expr} {scope : Scope} {k i : Nat} {a : Str} {pn : List (Addr × Obj)} {xe : Value → Shared → Prop} {W : WX} {E : XK} {tb : TE} {p1 p2 : Pos}
    (I : Inv X pins σ H s) (L : LamS X.env.scope scope) (here : s.heap.get? f = some (PySem.W.kla_obj "<lambda>" (X.env.qual ++ "<lambda>") params body scope (cloFrom X.env.cells scope.names []) pm c' ctv)) (unknown : H f = none) (noFrame : f ∉ frs X.stack)
    (noArgs : bindArgs (PySem.W.kla_fn "<lambda>" (X.env.qual ++ "<lambda>") params body scope (cloFrom X.env.cells scope.names []) pm (.ref c') ctv) ⟨[], []⟩ = pure [])
    (tk : Takes ((cxOf CXg X.prog X.w X.K X.mg X.base Ng qg sg g cdg X.A X.stack s H Eg).tr pn xe) W) (out : ∀ cls d τ G, E cls d G → W cls d τ G) (room : Room (k + 1) (X.A.deeper (envOfC qg sg s.heap.objs.size g cdg)))
    (runs : ∀ (A : Around) (outer : List Env) (s : Shared) (H : Hp), A.guards = X.A.guards → Room k (A.deeper (lamEnv X scope s.heap.objs.size f c')) → PE (lamCx X A outer s H E scope f c') body tb)
    (named : Ng[i]? = some a) (seen : Vis sg a) (hd : (a == ("__debug__" : Str)) = false := by decide) (hcd : (a == ("__classdict__" : Str)) = false := by decide) :
    PE ((cxOf CXg X.prog X.w X.K X.mg X.base Ng qg sg g cdg X.A X.stack s H Eg).tr pn xe) (.Call (.Name a p1) [] [] p2)
      (fun τ G Q => τ[i]? = some (some (.ref f)) ∧ G c' = some (CodeO c' (X.env.qual ++ "<lambda>")) ∧ tb σ G Q) := by
  refine ⟨fun pins2 s2 τ G Q J ⟨slot, code, wish⟩ => ?_⟩
  refine wpAny_Call_Name_kw (thn ((pe_var (pos := p1) (i := i) named seen hd hcd).run pins2 s2 τ G (fun v G1 => v = .ref f ∧ G1 = G) J ⟨.ref f, slot, rfl, rfl⟩) fun u s3 ⟨v, G1, J1, rel, ev, eG⟩ => ?_)
  subst ev
  subst eG
  cases (show u = Value.ref f from rel)
  have stays := J1.base.keep f _ here unknown noFrame (fun z => by cases z)
  refine PySem.W.callWith_F0 ⟨_, _, _, _, stays⟩ ?_
  have ran := lam_ranG (k := k) (E := E) (tb := tb) (Q := Q) I L stays noArgs room J1.env0 J1.base J1.nolimit code J1.hok (runs _ _ _ _ rfl (room.deeper _)) wish
  have leaves : Passes (L2.CX X.prog X.w) ((cxOf CXg X.prog X.w X.K X.mg X.base Ng qg sg g cdg X.A X.stack s H Eg).tr pn xe) E := passes_call tk out
  refine wpAny_call (codeAny_mono ran fun r s4 z => ?_)
  match r, z with
  | .error e, z => exact leaves pins2 τ G1 s3 e s4 J1 z
  | .ok (.ret u), z => exact J1.after z
  | .ok .next, z => exact False.elim z
  | .ok .brk, z => exact False.elim z
  | .ok .cont, z => exact False.elim z
/-- x(lambda: body) -/
theorem pe_lamcallG {T : List (Addr × Str)} {TT : (XK → Hp → VK → Prop) → Hp → VK → Prop} {x a : Str} {g c P : Addr} {k : Nat} {pg : Arguments} {bg : List Stmt} {sg : Scope} {dV kV doc pm cdv ct oc : Value} {an od : Option Addr} {osl : Array (Option Value)} {Ng : List Str}
    {params : Arguments} {body : Expr} {scope : Scope} {t : XK → TE} {p lpos pos : Pos} (gl : Gl X x) (inMg : X.mg x = some (.ref g)) (keep : PySem.W.keepIn X.K (.ref g) = true)
    (found : X.K.lookup g = some ⟨oc, od, .func (PySem.W.fnOf x x pg bg sg dV kV doc pm an cdv ct), osl⟩) (isCode : PySem.W.codeIn X.K cdv x = true) (binds : L2.Binds X.K (PySem.W.fnOf x x pg bg sg dV kV doc pm an cdv ct) [a] []) (Sg : FnScope Ng [a] sg) (named : Ng[0]? = some a) (seen : Vis sg a)
    (gives : GivesTo X Ng x sg g cdv bg a (X.env.qual ++ "<lambda>") TT)
    (TB : TabB X.base X.mg c P) (own : X.env.code = .ref c) (inT : (P, X.env.qual ++ "<lambda>") ∈ T) (just : ∀ p ∈ T, p.1 = P → p.2 = X.env.qual ++ "<lambda>") (room : Room (k + 2) X.A) (L : LamS X.env.scope scope) (noDefaults : defaultsOf params X.env = ([], []))
    (noArgs : ∀ (q : Str) (cl : List (Str × Addr)) (pm cv ctv : Value), bindArgs (PySem.W.kla_fn "<lambda>" q params body scope cl pm cv ctv) ⟨[], []⟩ = pure [])
    (runs : ∀ (A : Around) (outer : List Env) (s : Shared) (H : Hp) (E : XK) (f c' : Addr), A.guards = X.A.guards → Room k (A.deeper (lamEnv X scope s.heap.objs.size f c')) → PE (lamCx X A outer s H E scope f c') body (t E))
    (hdb : (x == ("__debug__" : Str)) = false := by decide) (hd : (a == ("__debug__" : Str)) = false := by decide) (hcd : (a == ("__classdict__" : Str)) = false := by decide) :
    PE X (.Call (.Name x p) [.Lambda params body scope lpos] [] pos) (tLam T TT t) := by
  refine ⟨fun pins s σ H Q I ⟨known, wish⟩ => ?_⟩
  refine wpAny_Call_Name_kw (ld_glob I gl inMg (PySem.W.callWith_K (h₀ := X.base) I.ok.mod.kin keep ?_ (by rfl) (by rfl)) hdb)
  show wpAny _ _ (spliced ((false, eval (.Lambda params body scope lpos) X.env) :: backTo pos (starEach [] X.env))) _ _ s
  refine Calls.spliced_cons (lam_make2 I TB own inT just known noDefaults (L.has I.ok) fun f c' pm' ctv H1 s1 J grown tabs1 here unknown noFrame code => Calls.spliced_nil ⟨J.kIn, ?_⟩)
  have ran : codeAny (model X.prog X.w) X.A (.call (.ref g) ⟨[.ref f], []⟩) (CR C8.CX0 X.stack X.prog X.w H1 s1 Q C8.E0) s1 :=
    run_ofS (N := Ng) (ps := [a]) (us := [.ref f]) (vs := [.ref f]) found isCode Sg room J.env0 (binds s1 [.ref f] J.kIn rfl) (.cons rfl .nil) rfl fun room2 => by
      obtain ⟨t2, h1, h2⟩ := gives f c' s1 H1 Q (fun E G Q' => t E σ G Q') (fun W pn xe E p1 p2 tk out => pe_actG (i := 0) J L here unknown noFrame (noArgs _ _ _ _ _) tk out room2 (fun A outer s H gs room3 => runs A outer s H E f c' gs room3) named seen hd hcd) code (wish H1 grown tabs1)
      exact ⟨t2, h1.nox, h2⟩
  refine wpAny_call (codeAny_mono ran fun r s2 z => ?_)
  match r, z with
  | .error e, z => exact False.elim z
  | .ok (.ret u), z => exact J.after z
  | .ok .next, z => exact False.elim z
  | .ok .brk, z => exact False.elim z
  | .ok .cont, z => exact False.elim z
end


end My
namespace My
open PySem PySem.Spec PyProof.Rows L2 TL
/-! ### how often a text stands in a list; rows by order; repr with a dict at the end -/
def eqs (k : Str) (v : Value) : Bool := match v with
  | .str n _ => n.cps.toList == k.cps.toList
  | _ => false
theorem eqs_gives {k : Str} {t : Tok} : ∀ {ns : List Str} {us : List Value}, Vals (ns.map V.str) us → ∀ y ∈ us, MeetsSeq.EqGives y (.str k t) (eqs k y)
  | [], _, h => fun y hy => by
    cases h
    cases hy
  | n :: ns, _, h => fun y hy => by
    cases h with
    | cons h1 h2 =>
      rcases List.mem_cons.mp hy with e | e
      · rw [e]
        obtain ⟨u, rfl⟩ := h1
        exact SeqRoads2.EqGives.str n k u t
      · exact eqs_gives h2 y e
theorem str_ext {a b : Str} (h : a.cps.toList = b.cps.toList) : a = b := by
  cases a with
  | mk a => cases b with
    | mk b => exact congrArg Str.mk (Array.toList_inj.mp h)
theorem eqs_count {k : Str} : ∀ {ns : List Str} {us : List Value}, Vals (ns.map V.str) us → us.countP (eqs k) = ns.countP fun n => decide (n = k)
  | [], _, h => by
    cases h
    rfl
  | n :: ns, _, h => by
    cases h with
    | cons h1 h2 =>
      obtain ⟨u, rfl⟩ := h1
      rw [List.countP_cons, List.countP_cons, eqs_count h2]
      have e : eqs k (.str n u) = decide (n = k) := by
        show (n.cps.toList == k.cps.toList) = _
        by_cases z : n = k
        · rw [z, decide_eq_true rfl]
          exact beq_self_eq_true _
        · rw [decide_eq_false z]
          exact beq_eq_false_iff_ne.mpr fun y => z (str_ext y)
      rw [e]
section
variable {X : Cx}
def rCntS (K : PySem.W.Frag) : V → List V → Hp → VK → Prop := fun x xs H Q => ∃ (p : Addr) (ns : List Str) (k : Str), x = .ref p ∧ xs = [.str k] ∧ SqL K H p (ns.map V.str) ∧ Q (.int ((ns.countP fun n => decide (n = k) : Nat) : Int)) H
theorem mt_lcountS : MtR X "list.count" (rCntS X.K) := by
  intro pins s σ H x xs v us Q I rx rxs h
  obtain ⟨p, ns, k, rfl, rfl, hs, q⟩ := h
  cases rx
  obtain ⟨u, rfl, ru⟩ := rxs.one
  obtain ⟨t, rfl⟩ := ru
  obtain ⟨its, rv, ⟨⟨cls, dd, data, sl⟩, n, ho, hc, hdn, hd⟩, hlen⟩ := I.list hs
  simp only at hc hd
  subst hc hd
  refine call_meets PySem.F.slot_list_count ⟨_, ho, rfl⟩ PySem.F.entry_list_count (PySem.F.args_list_count_2 _ _)
    (SeqAt.list_countAt p its.toArray n dd sl (.str k t) (eqs k)) ⟨ho, fun y hy => (eqs_gives rv y (by simpa using hy)).at _ _, ?_⟩
  have ec : its.toArray.toList.countP (eqs k) = ns.countP fun n => decide (n = k) := eqs_count rv
  refine ⟨.int ((ns.countP fun n => decide (n = k) : Nat) : Int), H, I.tok _, ⟨s.toks, ?_⟩, q⟩
  show Value.int ((its.toArray.toList.countP (eqs k) : Nat) : Int) s.toks = Value.int ((ns.countP fun n => decide (n = k) : Nat) : Int) s.toks
  rw [ec]
/-- a < b of rows -/
def rLtD (K : PySem.W.Frag) : R2 := fun x y H Q => ∃ d e, Dp K H x d ∧ Dp K H y e ∧ PySem.W.alike d e = true ∧ d ≠ .none ∧ d.depth ≤ 60 ∧ Q (.bl (PySem.W.dataLt d e)) H
theorem op_ltD (hu : X.A.units + 64 < cLine) : OpR X (compareOp .Lt) (rLtD X.K) := by
  intro pins s σ H x y v u Q I rx ry h
  obtain ⟨d, e, hd, he, al, nn, dp, q⟩ := h
  obtain ⟨as, ra⟩ := Dp.reads I d x v hd rx
  obtain ⟨bs, rb⟩ := Dp.reads I e y u he ry
  exact PySem.W.lt_data ra rb al nn (by have := Nat.min_le_left d.depth e.depth; omega) ⟨.bl (PySem.W.dataLt d e), H, I, rfl, q⟩
/-- repr of a list whose last item is a dict, all its other items without dicts -/
def kD : Key → PyData
  | .inl i => .int i
  | .inr x => .str x
mutual
def noLD : PyData → Bool
  | .none => true
  | .bool _ => true
  | .int _ => true
  | .str _ => true
  | .list _ => false
  | .tuple ds => noLDs ds
  | .dict _ => false
def noLDs : List PyData → Bool
  | [] => true
  | d :: ds => noLD d && noLDs ds
end
mutual
theorem reads_noLD {h : Heap} : ∀ {d : PyData} {u : Value} {as : List Addr}, noLD d = true → Reads h u d as → as = []
  | .none, _, _, _, h => by
    cases h
    rfl
  | .bool _, _, _, _, h => by
    cases h
    rfl
  | .int _, _, _, _, h => by
    cases h
    rfl
  | .str _, _, _, _, h => by
    cases h
    rfl
  | .list ds, _, _, hd, _ => by
    rw [noLD] at hd
    cases hd
  | .tuple ds, _, _, hd, h => by
    cases h with
    | tuple h1 h2 h3 h4 =>
      rw [noLD] at hd
      exact readsAll_noLD hd h4
  | .dict _, _, _, hd, _ => by
    rw [noLD] at hd
    cases hd
theorem readsAll_noLD {h : Heap} : ∀ {ds : List PyData} {us : List Value} {as : List Addr}, noLDs ds = true → ReadsAll h us ds as → as = []
  | [], _, _, _, h => by
    cases h
    rfl
  | d :: ds, _, _, hd, h => by
    cases h with
    | cons h1 h2 =>
      rw [noLDs] at hd
      obtain ⟨d1, d2⟩ := Bool.and_eq_true_iff.mp hd
      rw [reads_noLD d1 h1, readsAll_noLD d2 h2]
      rfl
end
/-- a new list is not sys.modules -/
def tLstB (t : TA) : TE := fun σ H Q => t σ H fun xs H1 => xs.length ≤ sizeLine ∧ ∀ p, H1 p = none → p ≠ sysModules → Q (.ref p) (upd H1 p (.lst xs))
theorem pe_lstB {es : List Expr} {t : TA} {pos : Pos} (h : PA X es t) : PE X (.List es pos) (tLstB t) := by
  refine ⟨fun pins s σ H Q I hq => ?_⟩
  refine wpAny_List_spliced (thn (h.run pos pins s σ H _ I hq) fun us s1 ⟨xs, H1, I1, r, z, q⟩ => ⟨by rw [← r.length]; exact z, ?_⟩)
  have hf : H1 s1.heap.objs.size = none := I1.hok.fresh (Nat.le_refl _)
  refine ⟨.ref s1.heap.objs.size, upd H1 s1.heap.objs.size (.lst xs), I1.laid (t' := s1.toks) (fun b u e => Heap.get?_push_of_some _ e) (Nat.le_refl _) ?_, rfl, q _ hf (Nat.ne_of_gt I1.big)⟩
  exact ⟨z, us, 0, r, Heap.get?_push_size _ rfl⟩
/-- list + list, the new one is not sys.modules -/
def rCatB : R2 := fun x y H Q => ∃ l b xs zs, x = .ref l ∧ y = .ref b ∧ H l = some (.lst xs) ∧ H b = some (.lst zs) ∧ xs.length + zs.length ≤ sizeLine ∧ ∀ p, H p = none → p ≠ sysModules → Q (.ref p) (upd H p (.lst (xs ++ zs)))
theorem op_catB : OpR X (binaryOp .Add) rCatB := by
  intro pins s σ H x y v u Q I rx ry h
  obtain ⟨l, b, xs, zs, rfl, rfl, hH, hB, hz, q⟩ := h
  cases rx
  cases ry
  obtain ⟨z, its, n, r, hl, e⟩ := I.lstM hH
  obtain ⟨z2, its2, n2, r2, hl2, e2⟩ := I.lstM hB
  refine PySem.P.add_list e e2 ?_ (by rw [List.size_toArray, List.size_toArray]; omega)
  have ea : its.toArray ++ its2.toArray = (its ++ its2).toArray := by simp
  rw [ea]
  exact ⟨.ref _, _, I.lnew (t' := s.toks) (r.append r2) (by rw [List.length_append]; omega), rfl, q _ I.fresh (Nat.ne_of_gt I.big)⟩
end
section
variable {X : Cx}
theorem kd_read {h : Heap} (k : Key) (key : Value) (e : keyIs k key = true) : Reads h key (kD k) [] := by
  rcases keyIs_shape e with ⟨i, t, rfl, rfl⟩ | ⟨x, t, rfl, rfl⟩
  · exact Reads.int i t
  · exact Reads.str x t
theorem pairs_read {h : Heap} : ∀ {kvs : List (Key × Int)} {vs : List (Key × Value)}, KV (kvs.map fun p => (p.1, V.int p.2)) vs → PyProof.V.PairsRead h kD vs (kvs.map fun p => (kD p.1, PyData.int p.2)) []
  | [], _, r => by
    cases r
    exact .nil
  | (k, i) :: kvs, _, r => by
    cases r with
    | @cons _ q _ _ h1 h2 =>
      obtain ⟨e1, u, e2⟩ := h1
      obtain ⟨key, v⟩ := q
      have e1 : k = key := e1
      have e2 : v = .int i u := e2
      subst e1
      subst e2
      exact .cons (as := []) (Reads.int i u) (pairs_read h2)
theorem readsAll_app {h : Heap} : ∀ {us ws : List Value} {ds es : List PyData} {as bs : List Addr}, ReadsAll h us ds as → ReadsAll h ws es bs → ReadsAll h (us ++ ws) (ds ++ es) (as ++ bs)
  | _, _, _, _, _, _, .nil, k => k
  | _, _, _, _, _, _, .cons h1 h2, k => by
    rw [List.append_assoc]
    exact .cons h1 (readsAll_app h2 k)
theorem call_repr_lastD (hG : X.A.guards = some []) (hu : X.A.units + 64 < cLine) : CallR X (.builtin "repr") (fun xs H Q => ∃ (p d : Addr) (ys : List V) (ds : List PyData) (kvs : List (Key × Int)), xs = [.ref p] ∧ p ≠ sysModules ∧ SqL X.K H p (ys ++ [.ref d]) ∧ DpAll X.K H ys ds ∧ H d = some (.dK (kvs.map fun q => (q.1, V.int q.2))) ∧
    (PyData.list (ds ++ [.dict (kvs.map fun q => (kD q.1, PyData.int q.2))])).showable = true ∧ noLDs ds = true ∧ (PyData.list (ds ++ [.dict (kvs.map fun q => (kD q.1, PyData.int q.2))])).depth ≤ 20 ∧ (PyData.list (ds ++ [.dict (kvs.map fun q => (kD q.1, PyData.int q.2))])).shown.length ≤ sizeLine ∧ Q (.str (PyData.list (ds ++ [.dict (kvs.map fun q => (kD q.1, PyData.int q.2))])).shown) H) := by
  intro pins s σ H xs us Q I r h
  obtain ⟨p, d, ys, ds, kvs, rfl, hps, hp, hy, hd, h1, h2, h3, h4, q⟩ := h
  obtain ⟨u, rfl, r1⟩ := vals1 r
  cases r1
  obtain ⟨its, rv, ⟨o, n, ho, hc, hdn, hdt⟩, hz⟩ := I.list hp
  obtain ⟨ws, zs, rfl, r2, r3⟩ : ∃ ws zs, its = ws ++ zs ∧ Vals ys ws ∧ Vals [V.ref d] zs := by
    clear hp ho hdt hz hy
    induction ys generalizing its with
    | nil => exact ⟨[], its, rfl, .nil, rv⟩
    | cons y ys ih =>
      cases rv with
      | cons a b =>
        obtain ⟨ws, zs, rfl, c1, c2⟩ := ih _ b
        exact ⟨_ :: ws, zs, rfl, .cons a c1, c2⟩
  obtain ⟨as, ra⟩ := Dp.readsAll I ds ys ws hy r2
  obtain ⟨z, rfl, r4⟩ := vals1 r3
  cases r4
  obtain ⟨hk, hne, vs, rel, dd⟩ := dk_of I.hok hd
  have rd : Reads s.heap (.ref d) (.dict (kvs.map fun q => (kD q.1, PyData.int q.2))) (d :: []) := PyProof.V.reads_dictOf kd_read dd (pairs_read rel)
  have all := readsAll_app ra (.cons rd .nil)
  have whole : Reads s.heap (.ref p) (.list (ds ++ [.dict (kvs.map fun q => (kD q.1, PyData.int q.2))])) _ := Reads.list ho hc hdt all
  refine repr_of_reads' (h₀ := s.heap) whole h1 (fun _ => ?_) hG (by omega) (fun _ _ e => e) (fun h' u tk k => ⟨.str (PyData.list (ds ++ [.dict (kvs.map fun q => (kD q.1, PyData.int q.2))])).shown, H, I.kept k, ⟨u, rfl⟩, q⟩) h4
  intro z
  rcases List.mem_cons.mp z with z | z
  · exact hps z.symm
  · rcases List.mem_append.mp z with z | z
    · rw [readsAll_noLD h2 ra] at z
      cases z
    · have z : sysModules ∈ ([d] : List Addr) := by simpa using z
      have z := List.mem_singleton.mp z
      rw [z] at hne
      exact absurd hne (by simp)
end


end My
namespace My
open PySem PySem.Spec PyProof.Rows L2 TL
/-! ### own exceptions over any built-in one -/
/-- a built-in exception's __init__ -/
structure InitF (B initId : String) : Prop where
  slot : Slot B "__init__" initId
  entry : entryFor table initId = some Builtin.«BaseException.__init__»
  split : splitId initId = some (B, "__init__")
  kind : builtinKind initId = some .slot
  row : Manifest.signature? initId = some ⟨.positional, "*", B, .self, [⟨"args", .varPos, false⟩]⟩
  noStar : (B != "*") = true
theorem initF_of {B n i : String} {m : List Value} (F : ExcBaseFacts B n i m) : InitF B i := ⟨F.init, F.initEntry, F.initSplit, F.initKind, F.initRow, F.noStar⟩
theorem initF_KeyError : InitF "KeyError" "KeyError.__init__" where
  slot := .of (owner := "KeyError") (n := "__init__") (by rw [typeLookup_type, builtinLookup_eq_fast]; kernel_rfl) (by decide +kernel) (by decide +kernel) (by decide +kernel)
    (by first | exact .inl (by decide +kernel) | exact .inr (by decide +kernel)) (by rw [isSubtype_type]; kernel_rfl)
  entry := entryFor_alias (id' := "BaseException.__init__") (by rw [fastTable_eq_tree]; kernel_rfl) (by first | rfl | decide +kernel) (by decide +kernel) (by rw [fastTable_eq_tree]; kernel_rfl)
  split := by kernel_rfl
  kind := by kernel_rfl
  row := by kernel_rfl
  noStar := by decide +kernel
theorem store_KeyError : StoreFacts "KeyError" [.type "KeyError", .type "LookupError", .type "Exception", .type "BaseException", .type "object"] "object.__setattr__" "object" where
  mro := by kernel_rfl
  slot := .of (owner := "object") (n := "__setattr__") (by rw [typeLookup_type, builtinLookup_eq_fast]; kernel_rfl) (by decide +kernel) (by decide +kernel) (by decide +kernel)
    (by first | exact .inl (by decide +kernel) | exact .inr (by decide +kernel)) (by rw [isSubtype_type]; kernel_rfl)
  entry := PySem.F.entry_object_sa
  kind := by decide +kernel
  split := by decide +kernel
  hasOwner := by decide +kernel
  args := fun a b c => by unfold argsOk; kernel_rfl
  passes := fun self => by kernel_rfl
/-- own exceptions over the built-in B: made by N's __new__ -/
structure ExB (B newId initId : String) (bmB : List Value) : Prop where
  N : ∃ N i0 bm0, ExcBaseFacts N newId i0 bm0 ∧ bmB.contains (.type N) = true
  I : InitF B initId
  S : StoreFacts B bmB "object.__setattr__" "object"
  hB : bmB.contains (.type B) = true
  hA : bmB.contains (.type "AttributeError") = false
  hE : bmB.contains (.type "NameError") = false
theorem exB_ValueError : ExB "ValueError" "ValueError.__new__" "ValueError.__init__" [.type "ValueError", .type "Exception", .type "BaseException", .type "object"] := ⟨⟨_, _, _, PySem.F.excBase_ValueError, by decide +kernel⟩, initF_of PySem.F.excBase_ValueError, PySem.F.store_ValueError, by decide +kernel, by decide +kernel, by decide +kernel⟩
theorem exB_LookupError : ExB "LookupError" "LookupError.__new__" "LookupError.__init__" [.type "LookupError", .type "Exception", .type "BaseException", .type "object"] := ⟨⟨_, _, _, PySem.F.excBase_LookupError, by decide +kernel⟩, initF_of PySem.F.excBase_LookupError, PySem.F.store_LookupError, by decide +kernel, by decide +kernel, by decide +kernel⟩
theorem exB_IndexError : ExB "IndexError" "IndexError.__new__" "IndexError.__init__" [.type "IndexError", .type "LookupError", .type "Exception", .type "BaseException", .type "object"] := ⟨⟨_, _, _, PySem.F.excBase_IndexError, by decide +kernel⟩, initF_of PySem.F.excBase_IndexError, PySem.F.store_IndexError, by decide +kernel, by decide +kernel, by decide +kernel⟩
theorem exB_OverflowError : ExB "OverflowError" "OverflowError.__new__" "OverflowError.__init__" [.type "OverflowError", .type "ArithmeticError", .type "Exception", .type "BaseException", .type "object"] := ⟨⟨_, _, _, PySem.F.excBase_OverflowError, by decide +kernel⟩, initF_of PySem.F.excBase_OverflowError, PySem.F.store_OverflowError, by decide +kernel, by decide +kernel, by decide +kernel⟩
theorem exB_ArithmeticError : ExB "ArithmeticError" "ArithmeticError.__new__" "ArithmeticError.__init__" [.type "ArithmeticError", .type "Exception", .type "BaseException", .type "object"] := ⟨⟨_, _, _, PySem.F.excBase_ArithmeticError, by decide +kernel⟩, initF_of PySem.F.excBase_ArithmeticError, PySem.F.store_ArithmeticError, by decide +kernel, by decide +kernel, by decide +kernel⟩
theorem exB_RuntimeError : ExB "RuntimeError" "RuntimeError.__new__" "RuntimeError.__init__" [.type "RuntimeError", .type "Exception", .type "BaseException", .type "object"] := ⟨⟨_, _, _, PySem.F.excBase_RuntimeError, by decide +kernel⟩, initF_of PySem.F.excBase_RuntimeError, PySem.F.store_RuntimeError, by decide +kernel, by decide +kernel, by decide +kernel⟩
theorem exB_KeyError : ExB "KeyError" "LookupError.__new__" "KeyError.__init__" [.type "KeyError", .type "LookupError", .type "Exception", .type "BaseException", .type "object"] := ⟨⟨_, _, _, PySem.F.excBase_LookupError, by decide +kernel⟩, initF_KeyError, store_KeyError, by decide +kernel, by decide +kernel, by decide +kernel⟩
/-- what the written part says of an own exception class at C over the built-in one B -/
structure OexB (K : PySem.W.Frag) (C : Addr) (initId : String) : Prop where
  b : ∃ B newId bmB, ExB B newId initId bmB ∧ PySem.W.excInitIn K C bmB newId = true ∧ PySem.W.excOver K C bmB = true
  hd : PySem.W.hasDictIn K C = true
  sa : PySem.W.findIn K (.ref C) "__setattr__" = some (some (.builtin "object.__setattr__"))
  exC : PySem.W.subIn K (.ref C) (.type "BaseException") = some true
  tyC : PySem.W.typeIn K (.ref C) = some (.type "type")
  kC : PySem.W.keepIn K (.ref C) = true
  ga : PySem.W.findIn K (.ref C) "__getattribute__" = some (some (.builtin "BaseException.__getattribute__"))
  gg : PySem.W.findIn K (.ref C) "__getattr__" = some none
theorem OexB.xf {K : PySem.W.Frag} {C : Addr} {i : String} (h : OexB K C i) : XfC K C := ⟨h.ga, h.gg, h.exC, h.hd⟩


end My
namespace My
open PySem PySem.Spec PyProof.Rows L2 TL
/-! ### C(..), C an own exception class with its own __init__, over any built-in one -/
section
open PySem.HandSPX Builtin.ObjectAttr
variable {prog : Program} {w : World} {A : Around} {E : Value → Shared → Prop} {R : Result → Shared → Prop} {h : Heap} {g : Array GenState} {d : Drawn} {t : Nat} {os : OsState}
variable {nm q : Str} {C N : Addr} {bs bm bm0 : List Value} {hdct : Bool} {sn : List Str} {sub : List Value} {ab : Bool} {col : Option Bool} {dd : Option Addr} {k0 k1 k2 k3 k5 : Option Value} {B newId initId i0 : String}
theorem nw_check {M : Model} (F : ExcBaseFacts B newId i0 bm0) (hB : bm.contains (.type B) = true) {rest : List Value} {Q : Unit → Shared → Prop}
    (hC : h.get? C = some (excClassObj nm q C N bs bm hdct sn sub ab col dd k0 k1 k2 k3 k5 newId)) (hq : Q () ⟨h, g, d, t, os⟩) : wpAny M A (checkBuiltinCall newId ⟨.ref C :: rest, []⟩) Q E ⟨h, g, d, t, os⟩ := by
  have c1 : (Value.ref C :: bm).contains (.type B) = true := by rw [List.contains_cons, hB, Bool.or_true]
  have c2 := F.noStar
  simp only [checkBuiltinCall, F.newKind, F.newSplit, F.newRow]
  repeat (first | refine wpAny_loadPart_at hC ?_ | (refine wpAny_isSubtype_exc hC ?_; rw [c1]) | refine wpAny_staticBase_exc hC ?_ | refine wpAny_madeBy_exc hC ?_ | simp only [bne_self_eq_false, Bool.false_eq_true, if_false] | wp_step)
  exact hq
theorem nw_make (F : ExcBaseFacts B newId i0 bm0) (hB : bm.contains (.type B) = true) (hA : bm.contains (.type "AttributeError") = false) (hN : bm.contains (.type "NameError") = false) {rest : List Value}
    (hC : h.get? C = some (excClassObj nm q C N bs bm hdct sn sub ab col dd k0 k1 k2 k3 k5 newId)) (hr : rest.length ≤ sizeLine)
    (hq : R (.ok (.ret (.ref (h.objs.size + 1)))) ⟨(h.push (PySem.W.kdv_tup rest)).push (excO C h.objs.size), g, d, t, os⟩) :
    codeAny (model prog w) A (.builtin newId ⟨.ref C :: rest, []⟩) R ⟨h, g, d, t, os⟩ := by
  have c0 := F.ends
  have c1 : (Value.ref C :: bm).contains (.type B) = true := by rw [List.contains_cons, hB, Bool.or_true]
  have c2 : (Value.ref C :: bm).contains (.type "AttributeError") = false := by rw [List.contains_cons, hA]; rfl
  have c3 : (Value.ref C :: bm).contains (.type "NameError") = false := by rw [List.contains_cons, hN]; rfl
  refine codeAny_builtinAt F.entry ?_
  unfold Builtin.«BaseException.__new__»
  refine PySem.wpAt_bind ?_
  show PySem.wpAt _ _ _ (stack >>= _) _ _ _
  refine PySem.wpAt_bind (PySem.wpAt_stack fun p below => PySem.wpAt_of_wpAny ?_)
  wp_walk
  refine PySem.wpAt_of_wpAny ?_
  rw [F.owner]
  repeat (first | with_reducible refine wpAny_madeHere_exc F.canon hC ?_ | with_reducible refine wpAny_loadPart_at hC ?_ | (with_reducible refine wpAny_isSubtype_exc hC ?_; first | rw [c1] | rw [c2] | rw [c3]) | wp_step)
  show R _ _
  rw [Heap.size_push]
  exact hq
theorem nw_type (F : ExcBaseFacts B newId i0 bm0) (hB : bm.contains (.type B) = true) (hA : bm.contains (.type "AttributeError") = false) (hN : bm.contains (.type "NameError") = false) {rest : List Value} {fI : Addr} {Q : Fin → Shared → Prop}
    (hC : h.get? C = some (excClassObj nm q C N bs bm hdct sn sub ab col dd k0 k1 k2 k3 k5 newId))
    (hi : PySem.W.Looks (model prog w) h (typeLookup (.ref C) "__init__") (some (.ref fI))) (hb : ∀ self, PySem.W.Looks (model prog w) h (bindSpecial (.ref fI) self) (.ref fI, [self])) (hr : rest.length ≤ sizeLine)
    (hq : codeAny (model prog w) A (.call (.ref fI) ⟨.ref (h.objs.size + 1) :: rest, []⟩)
      (fun r s' => match r with | .ok (.ret v) => v = .none ∧ Q (.done (.ret (.ref (h.objs.size + 1)))) s' | .ok _ => False | .error e => E e s')
      ⟨(h.push (PySem.W.kdv_tup rest)).push (excO C h.objs.size), g, d, t, os⟩) :
    wpAny (model prog w) A (Builtin.«type.__call__» ⟨.ref C :: rest, []⟩) Q E ⟨h, g, d, t, os⟩ := by
  repeat (first | with_reducible refine wpAny_loadPart_at hC ?_ | with_reducible refine wpAny_madeBy_exc hC ?_ | wp_step)
  refine codeAny_call_builtin_code (Code.quiet_builtin _ F.quiet) (nw_check F hB hC ?_)
  refine nw_make F hB hA hN hC hr ?_
  show wpAny _ _ _ _ _ _
  have k : ∀ b o, h.get? b = some o → ((h.push (PySem.W.kdv_tup rest)).push (excO C h.objs.size)).get? b = some o := fun b o e => Heap.get?_push_of_some _ (Heap.get?_push_of_some _ e)
  have hC1 := k _ _ hC
  have hg : ((h.push (PySem.W.kdv_tup rest)).push (excO C h.objs.size)).get? (h.objs.size + 1) = some (excO C h.objs.size) := by heap_get
  have c1 : (Value.ref C :: bm).contains (.ref C) = true := by simp
  have i1 := hi.keeps k
  have b1 := (hb (.ref (h.objs.size + 1))).keeps k
  unfold isInstance
  repeat (first | with_reducible refine wpAny_loadPart_at hg ?_ | (with_reducible refine wpAny_isSubtype_exc hC1 ?_; rw [c1]) | wp_step)
  show wpAny _ _ (typeLookup (.ref C) _) _ _ _
  refine i1.at ?_
  refine wpAny_holding (wpAny_bind (b1.at ?_))
  refine wpAny_bind (wpAny_call (codeAny_mono hq fun r s' z => ?_))
  rcases r with e | (v | _ | _ | _) <;> first | exact z | exact z.elim | skip
  obtain ⟨rfl, z⟩ := z
  first
    | exact wpAny_pure (wpAny_pure z)
    | (wp_walk; exact z)
theorem nw_call (F : ExcBaseFacts B newId i0 bm0) (hB : bm.contains (.type B) = true) (hA : bm.contains (.type "AttributeError") = false) (hN : bm.contains (.type "NameError") = false) {rest : List Value} {fI : Addr}
    (hC : h.get? C = some (excClassObj nm q C N bs bm hdct sn sub ab col dd k0 k1 k2 k3 k5 newId))
    (hi : PySem.W.Looks (model prog w) h (typeLookup (.ref C) "__init__") (some (.ref fI))) (hb : ∀ self, PySem.W.Looks (model prog w) h (bindSpecial (.ref fI) self) (.ref fI, [self])) (hr : rest.length ≤ sizeLine)
    (hq : codeAny (model prog w) (A.under (.builtin "type.__call__" ⟨.ref C :: rest, []⟩)) (.call (.ref fI) ⟨.ref (h.objs.size + 1) :: rest, []⟩) (PySem.W.InitBack (h.objs.size + 1) R)
      ⟨(h.push (PySem.W.kdv_tup rest)).push (excO C h.objs.size), g, d, t, os⟩) :
    codeAny (model prog w) A (.call (.ref C) ⟨rest, []⟩) R ⟨h, g, d, t, os⟩ := by
  have f1 := tc_lookup
  have f2 := tc_bind (.ref C)
  have hTy : (⟨h, g, d, t, os⟩ : Shared).TypeIs (.ref C) "type" := ⟨_, hC, rfl⟩
  refine codeAny_of_tree ?_
  show wpAny _ _ (callAny (.ref C) _) _ _ _
  repeat (any_goals (first | assumption | with_reducible refine wpAny_loadPart_at hC ?_ | wp_step))
  refine ⟨rfl, ?_⟩
  refine codeAny_call_builtin_at (Code.quiet_builtin _ (by decide +kernel)) entry_typeCall (wpAny_check_type_call_sub hC (nw_type F hB hA hN hC hi hb hr ?_))
  refine codeAny_mono hq fun r s' z => ?_
  rcases r with e | (v | _ | _ | _) <;> exact z
theorem in_check {M : Model} (F : InitF B initId) (hB : bm.contains (.type B) = true) {e : Addr} {oe : Obj} {rest : List Value} {Q : Unit → Shared → Prop}
    (hC : h.get? C = some (excClassObj nm q C N bs bm hdct sn sub ab col dd k0 k1 k2 k3 k5 newId)) (he : h.get? e = some oe) (hcls : oe.cls = .ref C) (hq : Q () ⟨h, g, d, t, os⟩) :
    wpAny M A (checkBuiltinCall initId ⟨.ref e :: rest, []⟩) Q E ⟨h, g, d, t, os⟩ := by
  have c1 : (Value.ref C :: bm).contains (.type B) = true := by rw [List.contains_cons, hB, Bool.or_true]
  have c2 := F.noStar
  simp only [checkBuiltinCall, F.kind, F.split, F.row]
  repeat (first | (with_reducible refine wpAny_loadPart_at he ?_; rw [hcls]) | with_reducible refine wpAny_loadPart_at hC ?_ | (with_reducible refine wpAny_isSubtype_exc hC ?_; rw [c1]) | wp_step)
  refine wpAny_onRaise ?_
  rw [show ∀ (a b : String) (n : Nat), Bind.check ⟨.positional, "*", B, .self, [⟨"args", .varPos, false⟩]⟩ a b n (List.map (fun x => x.fst) ({ pos := Value.ref e :: rest } : Args).kw) = pure () from
    fun a b n => check_star_args _ _ _ _ _ _]
  exact wpAny_pure hq
/-- B.__init__(e, ..): the args are laid anew -/
theorem in_base (F : InitF B initId) (hB : bm.contains (.type B) = true) {e t0 : Addr} {rest : List Value}
    (hC : h.get? C = some (excClassObj nm q C N bs bm hdct sn sub ab col dd k0 k1 k2 k3 k5 newId)) (he : h.get? e = some (excO C t0)) (hr : rest.length ≤ sizeLine)
    (hq : ∀ h' t1, (∀ b o, b ≠ e → h.get? b = some o → h'.get? b = some o) → h'.get? e = some (excO C t1) → R (.ok (.ret .none)) ⟨h', g, d, t, os⟩) :
    codeAny (model prog w) A (.call (.builtin initId) ⟨.ref e :: rest, []⟩) R ⟨h, g, d, t, os⟩ := by
  refine codeAny_call_builtin F.slot.plain F.entry (in_check F hB hC he rfl ?_)
  wp_walk
  refine hq _ h.objs.size (fun b o hb ho => ?_) ?_
  · rw [Heap.get?_update_other _ _ (Ne.symm hb)]
    exact Heap.get?_push_of_some _ ho
  · rw [Heap.get?_update_self _ (Heap.get?_push_of_some _ he) rfl]
    rfl
/-- self.name = v, where v is the first -/
theorem st_new {K : PySem.W.Frag} {bmB : List Value} {name : Str} {tk : Tok} {v : Value} {x : Addr} {fv : Array Value} (SF : StoreFacts B bmB "object.__setattr__" "object") (X : K.In h) (hx : h.get? x = some { cls := .ref C, data := .fields fv })
    (ho : PySem.W.excOver K C bmB = true) (hh : PySem.W.hasDictIn K C = true) (ha : PySem.W.findIn K (.ref C) name = some none)
    (hq : ∀ h' tk' dx, (∀ b o, b ≠ x → h.get? b = some o → h'.get? b = some o) → h.objs.size ≤ dx → dx ≠ x → h'.get? x = some { cls := .ref C, dict := some dx, data := .fields fv } →
      h'.Ns1 dx (fun y => if y = name then some v else none) → R (.ok (.ret .none)) ⟨h', g, d, tk', os⟩) :
    codeAny (model prog w) A (.call (.builtin "object.__setattr__") ⟨[.ref x, .str name tk, v], []⟩) R ⟨h, g, d, t, os⟩ := by
  refine PySem.W.osa_openX (s := ⟨h, g, d, t, os⟩) (od := none) (r := none) SF X ⟨hx, rfl, rfl, trivial⟩ ho (by unfold PySem.W.takerIn; rw [ha]; rfl) fun b => ?_
  obtain ⟨cd, hc, hd'⟩ := PySem.W.any_some hh
  have hxs : x ≠ h.objs.size := Nat.ne_of_lt (Heap.lt_size hx)
  have hcls : PySem.W.Looks (model prog w) h (classData C) cd := PySem.W.looks_clsIn X hc
  obtain ⟨nm, bs, mro, ns, qn, hd, sn, sb, ab, col, del⟩ := cd
  dsimp only at hd'
  subst hd'
  dsimp only
  unfold storeInOwnDict ownDictForStores
  repeat (first | with_reducible refine store_in_new ?_ ?_ | with_reducible refine wpAny_loadPart_at hx ?_ | with_reducible refine hcls.at ?_ | wp_step)
  · exact ⟨_, #[], _, (Heap.get?_update_ne _ _ _ _ hxs.symm).trans (Heap.get?_push_at rfl rfl), rfl, fun e he => absurd he (by simp), fun _ => rfl⟩
  · intro h' tk' hn' hs
    have hx1 : (h.push { cls := .type "dict", data := .dict #[] }).get? x = some { cls := .ref C, data := .fields fv } := Heap.get?_push_of_some _ hx
    refine hq h' tk' h.objs.size (fun b o hb ho => ?_) (Nat.le_refl _) hxs.symm ?_ hn'
    · exact (hs.2 b (Nat.ne_of_lt (Heap.lt_size ho))).trans ((Heap.get?_update_ne _ _ _ _ hb).trans (Heap.get?_push_of_some _ ho))
    · exact (hs.2 x hxs).trans (Heap.get?_update_self _ hx1 rfl)
end


end My
namespace My
open PySem PySem.Spec PyProof.Rows L2 TL
/-! ### exceptions as values: rules -/
section
variable {X : Cx} {pins : List (Addr × Obj)} {σ : L2.St} {H : Hp} {s : Shared} {a C dx : Addr} {i : String} {f : Str} {y : V} {u : Value} {fs : List (Str × V)} {Q : Unit → Shared → Prop} {E : Value → Shared → Prop} {A : Around}
/-- self.f = y, the first one -/
theorem osb_new (T : OexB X.K C i) (I : Inv X pins σ H s) (e : H a = some (exo a C none)) (hno : PySem.W.findIn X.K (.ref C) f = some none) (ry : RelV y u)
    (h : ∀ dx s', H dx = none → dx ≠ a → Inv X pins σ (upd (upd H dx (exd dx [(f, y)])) a (exo a C (some dx))) s' → Q () s') : wpAny (model X.prog X.w) A (setAttr (.ref a) f u) Q E s := by
  obtain ⟨B, newId, bmB, b, ini, ov⟩ := T.b
  obtain ⟨t1, ho⟩ := exo_at I.hok e
  obtain ⟨hp, g, d, t, os⟩ := s
  refine PySem.W.set_plain I.kIn (ox := { cls := .ref C, dict := none, data := .fields #[.ref t1, .none, .none, .none, .bool false, .none] }) (od := none) ⟨ho, rfl, rfl, trivial⟩ T.sa ?_
  refine st_new b.S I.kIn ho ov T.hd hno (fun h' tk' dx k dn dne hx hn => ?_)
  have hnd : H dx = none := I.hok.fresh dn
  have far : ∀ {c : Addr} {o : Obj}, hp.get? c = some o → c ≠ dx := fun {c o} q => Nat.ne_of_lt (Nat.lt_of_lt_of_le (Heap.lt_size q) dn)
  have off : ∀ {c : Addr}, H c = none → c ≠ a := fun {c} n z => by rw [z, e] at n; cases n
  have un : Un X.fs [] H (upd (upd H dx (exd dx [(f, y)])) a (exo a C (some dx))) hp h' := {
    keep := fun c o q n _ _ => k c o (off n) q
    slot := fun c o q n _ _ => ⟨o.slots, k c o (off n) q⟩
    free := fun c o q n _ => by rw [upd_ne (off n), upd_ne (far q)]; exact n
    there := fun c o q _ => by
      by_cases hc : c = a
      · exact ⟨_, by rw [hc]; exact hx⟩
      · exact ⟨o, k c o hc q⟩
    tups := fun c xs q => by rw [upd_ne (at_ne e q exo_tup), upd_ne (ne_of_none q hnd)]; exact q
    frzs := fun c o v q => by rw [upd_ne (at_ne e q exo_frz), upd_ne (ne_of_none q hnd)]; exact q
    tbls := fun c ps q => ⟨#[], by rw [upd_ne (at_ne e q exo_tbl), upd_ne (ne_of_none q hnd), q]; simp⟩ }
  refine h dx _ hnd dne (I.un (t' := tk') un fun c o q => ?_)
  by_cases hc : c = a
  · subst hc
    rw [upd_same] at q
    cases q
    exact exo_ok hx
  rw [upd_ne hc] at q
  by_cases hd : c = dx
  · subst hd
    rw [upd_same] at q
    cases q
    exact exd_ok hn (relO_put (fs := []) ry fun g => True.intro)
  rw [upd_ne hd] at q
  refine (I.hok c o q).stay (fun c' v hh z => k c' v ?_ z) (fun c' hh => by rw [upd_ne (at_ne e hh exo_own), upd_ne (ne_of_none hh hnd)]; exact hh) (fun c' xs hh => by rw [upd_ne (at_ne e hh exo_tup), upd_ne (ne_of_none hh hnd)]; exact hh)
  rcases hh with hh | hh
  · rw [hh]
    exact hc
  · exact at_ne e hh exo_own
/-- B.__init__(self, ..): nothing of it is told -/
theorem ib_ok {us : List Value} {Q : Value → Shared → Prop} (T : OexB X.K C i) (I : Inv X pins σ H s) (e : H a = some (exo a C none)) (hl : us.length ≤ sizeLine) (h : ∀ s', Inv X pins σ H s' → Q .none s') :
    wpAny (model X.prog X.w) A (call (.builtin i) (.ref a :: us)) Q E s := by
  obtain ⟨B, newId, bmB, b, ini, ov⟩ := T.b
  obtain ⟨nm, N', qn, bs, bm, hdct, sn, sub, ab, col, dd, k0, k1, k2, k3, k5, hC, hT⟩ := PySem.W.excInit_of I.kIn ini
  obtain ⟨t1, ho⟩ := exo_at I.hok e
  obtain ⟨hp, g, d, t, os⟩ := s
  refine wpAny_call (in_base b.I (by rw [hT]; exact b.hB) hC ho hl fun h' t2 k hx => ?_)
  have J := I.write (t' := t) (x := a) (e := a) (o := exo a C none) (by rw [e]; exact True.intro) (.inl rfl) k ⟨_, hx⟩ (exo_ok hx)
  rw [show upd H a (exo a C none) = H from funext fun c => by
    by_cases hc : c = a
    · rw [hc, upd_same, e]
    · rw [upd_ne hc]] at J
  exact h _ J
end
/-- B.__init__(self, ..) -/
def tExI (K : PySem.W.Frag) (i : String) (ta : TA) : TE := fun σ H Q => ta σ H fun vs H1 => ∃ (a C : Addr) (ws : List V), vs = .ref a :: ws ∧ ws.length ≤ 1000 ∧ OexB K C i ∧ H1 a = some (exo a C none) ∧ Q .non H1
/-- self.f = e, the exception's first -/
def tOsb (K : PySem.W.Frag) (f : Str) (to te : TE) : TS := fun D σ H => te σ H fun y H1 => to σ H1 fun x H2 => ∃ (a C : Addr) (i : String), x = .ref a ∧ OexB K C i ∧ PySem.W.findIn K (.ref C) f = some none ∧
  H2 a = some (exo a C none) ∧ ∀ dx, H2 dx = none → dx ≠ a → D.nx σ (upd (upd H2 dx (exd dx [(f, y)])) a (exo a C (some dx)))
/-- C(e, ..), C's own __init__ keeping sp, as a value -/
def tMkE (C : Addr) (sp : Sp) (ta : TA) : TE := fun σ H Q => ta σ H fun vs H1 => vs.length ≤ 1000 ∧ ∀ a, H1 a = none → sp (.ref a :: vs) (upd H1 a (exo a C none)) (fun v H2 => v = .non ∧ Q (.ref a) H2) E0
/-- e.f, e an exception -/
def tXv (C : Addr) (f : Str) (te : TE) : TE := fun σ H Q => te σ H fun x H1 => ∃ (a d : Addr) (fs : List (Str × V)) (v : V), x = .ref a ∧ H1 a = some (exo a C (some d)) ∧ H1 d = some (exd d fs) ∧ fs.lookup f = some v ∧ Q v H1
section
variable {X : Cx} {C C0 : Addr} {i T : String} {o e : Expr} {es : List Expr} {to te : TE} {ta : TA} {f x : Str} {p p' p1 p2 pos : Pos} {mc : Value}
theorem pe_exI {pl : Sem Bool} (ho : PE X o (tC (.ty T))) (ht : typeOf (.type T) = pure (.type "type")) (hs : Manifest.isStub T = false) (vV : PySem.W.findCls X.K (.type T) (.type "type") "__init__" = some (.val (.builtin i))) (hh : PySem.W.handedIn (.builtin i) = true) (ha : PA X (e :: es) ta)
    (hc : eval (.Call (.Attribute o "__init__" p2) (e :: es) [] pos) X.env = (do
      let ov ← eval o X.env
      standAt p2.atName
      let (f, first) ← holding [ov] (getMethod ov "__init__" pl)
      callWith pos f first (backTo pos (starEach (e :: es) X.env)) (backToKw pos (keywordEach [] X.env))) := by rfl)
    (he : starEach (e :: es) X.env = (false, eval e X.env) :: starEach es X.env := by rfl) (hpl : (backTo pos (starEach es X.env)).any (·.1) = false := by rfl) :
    PE X (.Call (.Attribute o "__init__" p2) (e :: es) [] pos) (tExI X.K i ta) := by
  refine ⟨fun pins s σ H Q I h => ?_⟩
  refine PySem.W.methodCall_KW (thn (ho.run pins s σ H (fun v H1 => v = .ty T ∧ H1 = H) I ⟨rfl, rfl⟩) fun u s0 ⟨v, H0, I0, r0, ev, eH⟩ => ?_) hc
  subst ev eH
  obtain rfl : u = Value.type T := r0
  obtain ⟨m, fr⟩ := I0.fr
  refine PySem.W.method_type fr I0.ok.mod.kin ht hs vV hh ?_
  refine PyProof.Rows.callWith_method1 (thn (ha.run pos pins _ σ _ _ (I0.tok _) h) fun us s1 ⟨vs, H1, I1, r1, a, C, ws, ev, hl, T, ea, q⟩ => ?_) he hpl
  subst ev
  cases r1 with
  | @cons _ u0 _ ur ra rw' =>
    obtain rfl : u0 = Value.ref a := ra
    have hlen : ur.length ≤ sizeLine := by
      rw [← Paired.length rw', sizeLine_eq]
      omega
    exact ib_ok T I1 ea hlen fun s' J => ⟨.non, H1, J, rfl, q⟩
/-- .. read off an own class -/
theorem pe_exIC {pl : Sem Bool} (ho : PE X o (tC (.ref C0))) (r : ClX.CRead X.K C0 mc) (vV : PySem.W.findCls X.K (.ref C0) mc "__init__" = some (.val (.builtin i))) (hh : PySem.W.handedIn (.builtin i) = true) (ha : PA X (e :: es) ta)
    (hc : eval (.Call (.Attribute o "__init__" p2) (e :: es) [] pos) X.env = (do
      let ov ← eval o X.env
      standAt p2.atName
      let (f, first) ← holding [ov] (getMethod ov "__init__" pl)
      callWith pos f first (backTo pos (starEach (e :: es) X.env)) (backToKw pos (keywordEach [] X.env))) := by rfl)
    (he : starEach (e :: es) X.env = (false, eval e X.env) :: starEach es X.env := by rfl) (hpl : (backTo pos (starEach es X.env)).any (·.1) = false := by rfl) :
    PE X (.Call (.Attribute o "__init__" p2) (e :: es) [] pos) (tExI X.K i ta) := by
  refine ⟨fun pins s σ H Q I h => ?_⟩
  refine PySem.W.methodCall_KW (thn (ho.run pins s σ H (fun v H1 => v = .ref C0 ∧ H1 = H) I ⟨rfl, rfl⟩) fun u s0 ⟨v, H0, I0, r0, ev, eH⟩ => ?_) hc
  subst ev eH
  obtain rfl : u = Value.ref C0 := r0
  refine PySem.W.method_cls I0.kIn r.ga (PySem.W.cls_value I0.kIn r.rd vV hh ?_)
  refine PyProof.Rows.callWith_method1 (thn (ha.run pos pins _ σ _ _ (I0.tok _) h) fun us s1 ⟨vs, H1, I1, r1, a, C, ws, ev, hl, T, ea, q⟩ => ?_) he hpl
  subst ev
  cases r1 with
  | @cons _ u0 _ ur ra rw' =>
    obtain rfl : u0 = Value.ref a := ra
    have hlen : ur.length ≤ sizeLine := by
      rw [← Paired.length rw', sizeLine_eq]
      omega
    exact ib_ok T I1 ea hlen fun s' J => ⟨.non, H1, J, rfl, q⟩
theorem ps_osb (ho : PE X o to) (he : PE X e te) (hs : swapsWith e (some (.Attribute o f p')) pos.line X.env = pure false := by rfl) : PS X (.Assign [.Attribute o f p'] e pos) (tOsb X.K f to te) := by
  refine ⟨fun pins s σ H D I h => ?_⟩
  refine plainObj_wpAny_Assign_Attribute (thn (he.run pins s σ H _ I h) fun v s1 ⟨y, H1, I1, r1, q1⟩ => thn (ho.run pins s1 σ H1 _ I1 q1) fun u s2 ⟨x, H2, I2, r2, a, C, i, ex, T, hno, ea, q⟩ => ?_) hs
  subst ex
  obtain rfl : u = Value.ref a := r2
  exact osb_new T I2 ea hno r1 fun dx s' n ne J => ⟨σ, _, J, q dx n ne⟩
theorem pe_mkE {fI : Addr} {k : Nat} {fd : FuncData} {ps : List Str} {sp : Sp} (T : OexB X.K C i) (iC : PySem.W.findIn X.K (.ref C) "__init__" = some (some (.ref fI))) (tI : PySem.W.typeIn X.K (.ref fI) = some (.type "function"))
    (F1 : FnOkG X.prog X.w X.K X.mg X.base CX0 k fI fd ps sp) (hr : Room (k + 1) X.A) (hG : X.A.guards = some []) (hb : Binds X.K fd ps []) (hg : Gl X x) (hm : X.mg x = some (.ref C)) (ha : PA X (e :: es) ta)
    (hdb : (x == ("__debug__" : Str)) = false := by decide) (he : starEach (e :: es) X.env = (false, eval e X.env) :: starEach es X.env := by rfl) (hpl : (backTo pos (starEach es X.env)).any (·.1) = false := by rfl) :
    PE X (.Call (.Name x p) (e :: es) [] pos) (tMkE C sp ta) := by
  refine ⟨fun pins s σ H Q I h => ?_⟩
  obtain ⟨B, newId, bmB, b, ini, ov⟩ := T.b
  refine wpAny_Call_Name_kw (ld_glob I hg hm ?_ hdb)
  refine PySem.W.callWith_K (h₀ := X.base) I.ok.mod.kin T.kC (thn (ha.run pos pins s σ H _ I h) fun us s1 ⟨vs, H1, I1, r1, hz, q1⟩ => ⟨I1.kIn, ?_⟩) he hpl
  obtain ⟨nm, N', qn, bs, bm, hdct, sn, sub, ab, col, dd, k0, k1, k2, k3, k5, hC, hT⟩ := PySem.W.excInit_of I1.kIn ini
  obtain ⟨N0, i0, bm0, FN, hN⟩ := b.N
  show wpAny _ _ (call (.ref C) us) _ _ _
  obtain ⟨hp, g, dr, tk, os⟩ := s1
  have hsz : hp.objs.size ≤ hp.objs.size + 1 := Nat.le_succ _
  have hn : H1 (hp.objs.size + 1) = none := I1.hok.fresh hsz
  have hq := q1 (hp.objs.size + 1) hn
  have kk : ∀ c o, hp.get? c = some o → ((hp.push (PySem.W.kdv_tup us)).push (PySem.HandSPX.excO C hp.objs.size)).get? c = some o := fun c o e => Heap.get?_push_of_some _ (Heap.get?_push_of_some _ e)
  have hget : ((hp.push (PySem.W.kdv_tup us)).push (PySem.HandSPX.excO C hp.objs.size)).get? (hp.objs.size + 1) = some (PySem.HandSPX.excO C hp.objs.size) := by heap_get
  have I2 : Inv X pins σ (upd H1 (hp.objs.size + 1) (exo (hp.objs.size + 1) C none)) ⟨(hp.push (PySem.W.kdv_tup us)).push (PySem.HandSPX.excO C hp.objs.size), g, dr, tk, os⟩ :=
    I1.laid (t' := tk) (a := hp.objs.size + 1) (o := exo (hp.objs.size + 1) C none) (h' := (hp.push (PySem.W.kdv_tup us)).push (PySem.HandSPX.excO C hp.objs.size)) kk hsz (exo_ok hget)
  have r2 : Vals (V.ref (hp.objs.size + 1) :: vs) (Value.ref (hp.objs.size + 1) :: us) := .cons rfl r1
  have hl : (Value.ref (hp.objs.size + 1) :: us ++ []).length = ps.length := by
    have e := r2.length
    rw [F1.arity _ _ _ _ hq] at e
    rw [List.append_nil]
    exact e.symm
  have hus : us.length ≤ sizeLine := by
    rw [← Paired.length r1, sizeLine_eq]
    omega
  have b2 := hb _ (Value.ref (hp.objs.size + 1) :: us) I2.kIn hl
  rw [List.append_nil] at b2
  refine wpAny_call (nw_call FN (by rw [hT]; exact hN) (by rw [hT]; exact b.hA) (by rw [hT]; exact b.hE) hC (PySem.W.looks_findIn I1.kIn iC) (fun self => PySem.W.bind_fn I1.kIn self tI) hus
    (codeAny_mono (F1.go _ X.stack _ _ ⟨Value.ref (hp.objs.size + 1) :: us, []⟩ (Value.ref (hp.objs.size + 1) :: us) _ _ E0 (hr.make C us []) (by first | exact hG | (unfold Around.under; exact hG) | (unfold Around.under; split <;> exact hG)) (I2.env0.make C us []) b2 r2 hq) fun r s' hq' => ?_))
  cases r with
  | error er => exact pass0 pins σ _ _ er s' I2 hq'
  | ok fl =>
    cases fl with
    | ret u =>
      obtain ⟨v, H', I', rv, ev, q2⟩ := I2.after hq'
      subst ev
      exact ⟨rv, .ref (hp.objs.size + 1), H', I', rfl, q2⟩
    | next => exact False.elim hq'
    | brk => exact False.elim hq'
    | cont => exact False.elim hq'
end


end My
namespace My
open PySem PySem.Spec PyProof.Rows L2 TL
/-! ### exceptions as values: rules, the second part -/
/-- at e: an exception of the class at C, its args at t -/
def exq (e C t : Addr) : HO := .ext fun h => h.get? e = some ({ cls := .ref C, dict := none, data := .fields #[.ref t, .none, .none, .none, .bool false, .none] } : Obj)
theorem exq_ok {P : Program} {w : World} {H : Hp} {h : Heap} {e C t : Addr} (he : h.get? e = some ({ cls := .ref C, dict := none, data := .fields #[.ref t, .none, .none, .none, .bool false, .none] } : Obj)) : ObjOk P w H h e (exq e C t) :=
  ⟨he, ⟨_, he⟩, fun h1 h2 q k => k _ q⟩
theorem exq_at {P : Program} {w : World} {H : Hp} {h : Heap} {e C t : Addr} (hok : HOk P w H h) (he : H e = some (exq e C t)) : h.get? e = some ({ cls := .ref C, dict := none, data := .fields #[.ref t, .none, .none, .none, .bool false, .none] } : Obj) := by
  have z : ObjOk P w H h e (.ext fun h => h.get? e = some ({ cls := .ref C, dict := none, data := .fields #[.ref t, .none, .none, .none, .bool false, .none] } : Obj)) := hok e _ he
  exact z.1
/-- C(x), C without an own __init__, x a text, as a value -/
def tMkA (C : Addr) (te : TE) : TE := fun σ H Q => te σ H fun v H1 => ∃ x, v = .str x ∧ ∀ a t, H1 a = none → H1 t = none → a ≠ t → Q (.ref a) (upd (upd H1 t (.tup [.str x])) a (exq a C t))
/-- an exception of the class at C -/
def IsE (C : Addr) (H : Hp) (v : V) : Prop := ∃ a, v = .ref a ∧ ((∃ t, H a = some (exq a C t)) ∨ ∃ d fs, H a = some (exo a C (some d)) ∧ H d = some (exd d fs))
theorem IsE.same {C : Addr} {H H' : Hp} {v : V} (s : Same H H') (h : IsE C H v) : IsE C H' v := by
  obtain ⟨a, e, h⟩ := h
  rcases h with ⟨x, h⟩ | ⟨d, fs, h1, h2⟩
  · exact ⟨a, e, .inl ⟨x, s _ _ h⟩⟩
  · exact ⟨a, e, .inr ⟨d, fs, s _ _ h1, s _ _ h2⟩⟩
def rIsX (K : PySem.W.Frag) : List V → Hp → VK → Prop := fun xs H Q => ∃ (x c : V) (C : Addr) (u : Value) (b : Bool), xs = [x, c] ∧ IsE C H x ∧ L2.ExcC K C ∧ ClsV c u ∧ PySem.W.kitOne K (.ref C) u = some b ∧ Q (.bl b) H
def rStrE (K : PySem.W.Frag) : List V → Hp → VK → Prop := fun xs H Q => ∃ (a C t : Addr) (x : Str), xs = [.ref a] ∧ H a = some (exq a C t) ∧ H t = some (.tup [.str x]) ∧ PySem.W.findIn K (.ref C) "__str__" = some (some (.builtin "BaseException.__str__")) ∧ PySem.W.subIn K (.ref C) (.type "BaseException") = some true ∧ Q (.str x) H
section
variable {X : Cx} {C : Addr} {e : Expr} {te : TE} {x f : Str} {p pos : Pos}
theorem pe_xv (T : XfC X.K C) (hno : PySem.W.findIn X.K (.ref C) f = some none) (he : PE X e te) (hb : attributeBase e f X.env (eval e X.env) = eval e X.env := by rfl) : PE X (.Attribute e f pos) (tXv C f te) := by
  refine ⟨fun pins s σ H Q I h => ?_⟩
  refine attr_of hb (thn (he.run pins s σ H _ I h) fun u s1 hh => ?_)
  obtain ⟨x, H1, I1, rx, a, dd, fs, v, ex, ea, ed, l, q⟩ := hh
  subst ex
  obtain rfl : u = Value.ref a := rx
  obtain ⟨t1, ho⟩ := exo_at I1.hok ea
  obtain ⟨mA, hns, hr⟩ := exd_at I1.hok ed
  obtain ⟨od, hod, hl⟩ := lookIn_ns hns
  obtain ⟨u, hu, ru⟩ := RelO.some_of (v := v) (o := mA f) (by rw [← l]; exact hr f)
  have J : PySem.W.InstAt s1.heap a { cls := .ref C, dict := some dd, data := .fields #[.ref t1, .none, .none, .none, .bool false, .none] } C (some od) := ⟨ho, rfl, rfl, hod⟩
  exact HandSPX.exc_get I1.kIn J T.ga T.gg T.exC (PySem.W.findObj_own T.hdC hno rfl (by rw [hl, hu])) (handed_of ru) ⟨v, H1, I1.tok _, ru, q⟩
theorem pe_mkA {bmB : List Value} {B newId initId : String} (F : ExcBaseFacts B newId initId bmB) (q : PySem.W.excIn X.K C bmB newId = true) (gC : X.mg x = some (.ref C)) (kC : PySem.W.keepIn X.K (.ref C) = true) (hg : Gl X x)
    (he : PE X e te) (hs : starEach [e] X.env = (false, eval e X.env) :: starEach [] X.env := by rfl) (hdb : (x == ("__debug__" : Str)) = false := by decide) : PE X (.Call (.Name x p) [e] [] pos) (tMkA C te) := by
  refine ⟨fun pins s σ H Q I h => ?_⟩
  refine wpAny_Call_Name_kw (ld_glob I hg gC ?_ hdb)
  refine PySem.W.callWith_K (h₀ := X.base) I.ok.mod.kin kC ?_ hs (by rfl)
  rw [hs]
  show wpAny _ _ (spliced ((false, eval e X.env) :: backTo pos (starEach [] X.env))) _ _ s
  refine Calls.spliced_cons (thn (he.run pins s σ H _ I h) fun u s1 ⟨v, H1, I1, r1, y, ey, q1⟩ => ?_)
  subst ey
  obtain ⟨tk, rfl⟩ := r1
  refine Calls.spliced_nil ⟨I1.kIn, ?_⟩
  show wpAny _ _ (call (.ref C) [.str y tk]) _ _ _
  obtain ⟨bm, N, nm, qn, bs, hdct, sn, sub, ab, col, dd, k0, k1, k2, k3, k5, mN, hC, hN, hni, T⟩ := exc_obj I1.kIn q
  refine wpAny_call_exc_subT F T hC hN hni (fun h' a hm => ?_) (by show 1 ≤ sizeLine; rw [sizeLine_eq]; omega)
  have hn : H1 a = none := I1.hok.gone hm.new
  obtain ⟨t, ht, htn, htt⟩ := hm.there
  have hnt : H1 t = none := I1.hok.gone htn
  have nat : a ≠ t := fun z => by
    rw [z, htt] at ht
    have y := Option.some.inj ht
    cases y
  have un : Un X.fs [] H1 (upd (upd H1 t (.tup [.str y])) a (exq a C t)) s1.heap h' := {
    keep := fun c o q _ _ _ => hm.keeps c o q
    slot := fun c o q _ _ _ => ⟨o.slots, hm.keeps c o q⟩
    free := fun c o q n _ => by
      rw [upd_ne (fun z => by rw [z, hm.new] at q; cases q), upd_ne (fun z => by rw [z, htn] at q; cases q)]
      exact n
    there := fun c o q _ => ⟨o, hm.keeps c o q⟩
    tups := fun c xs q => by rw [upd_ne (ne_of_none q hn), upd_ne (ne_of_none q hnt)]; exact q
    frzs := fun c o v q => by rw [upd_ne (ne_of_none q hn), upd_ne (ne_of_none q hnt)]; exact q
    tbls := fun c ps q => ⟨#[], by rw [upd_ne (ne_of_none q hn), upd_ne (ne_of_none q hnt), q]; simp⟩ }
  refine ⟨.ref a, _, I1.un (t' := s1.toks) un fun c o z => ?_, rfl, q1 a t hn hnt nat⟩
  by_cases hc : c = a
  · subst hc
    rw [upd_same] at z
    cases z
    exact exq_ok ht
  rw [upd_ne hc] at z
  by_cases hd : c = t
  · subst hd
    rw [upd_same] at z
    cases z
    exact ⟨by show 1 ≤ sizeLine; decide, [.str y tk], .cons ⟨tk, rfl⟩ .nil, _, htt, rfl, _, rfl⟩
  rw [upd_ne hd] at z
  exact (I1.hok c o z).stay (fun c' v hh y => hm.keeps c' v y) (fun c' hh => by rw [upd_ne (ne_of_none hh hn), upd_ne (ne_of_none hh hnt)]; exact hh) fun c' xs hh => by rw [upd_ne (ne_of_none hh hn), upd_ne (ne_of_none hh hnt)]; exact hh
theorem call_isX : CallR X (.builtin "isinstance") (rIsX X.K) := by
  intro pins s σ H xs us Q I r h
  obtain ⟨x, c, C, u, b, rfl, hx, T, k, e, q⟩ := h
  obtain ⟨u1, u2, rfl, r1, r2⟩ := vals2 r
  have e2 := k.eq r2
  subst e2
  obtain ⟨cd, hcd, _⟩ := PySem.W.any_some T.hd
  have hcl : (PySem.W.clsIn X.K C).isSome = true := by rw [hcd]; rfl
  obtain ⟨a, rfl, hx⟩ := hx
  obtain rfl : u1 = Value.ref a := r1
  rcases hx with ⟨t1, ha⟩ | ⟨d, fs, ha, hd⟩
  · have ho := exq_at I.hok ha
    exact PySem.W.kia_one (PySem.W.kitx_exc (od := none) (ox := { cls := .ref C, dict := none, data := .fields #[.ref t1, .none, .none, .none, .bool false, .none] }) hcl T.hg T.hk T.hs T.ha T.hn T.ht T.hm) I.kIn ⟨ho, rfl, rfl, trivial⟩ e (fun z => nomatch z) fun tk => ⟨.bl b, H, I.tok tk, rfl, q⟩
  · obtain ⟨t1, ho⟩ := exo_at I.hok ha
    obtain ⟨mA, hns, hr⟩ := exd_at I.hok hd
    obtain ⟨od, hod, hl⟩ := lookIn_ns hns
    exact PySem.W.kia_one (PySem.W.kitx_exc (od := some od) (ox := { cls := .ref C, dict := some d, data := .fields #[.ref t1, .none, .none, .none, .bool false, .none] }) hcl T.hg T.hk T.hs T.ha T.hn T.ht T.hm) I.kIn ⟨ho, rfl, rfl, hod⟩ e (fun z => nomatch z) fun tk => ⟨.bl b, H, I.tok tk, rfl, q⟩
theorem call_strE (hu : X.A.units + 2 < cLine) : CallR X (.type "str") (rStrE X.K) := by
  intro pins s σ H xs us Q I r h
  obtain ⟨a, C, t, x, rfl, ha, hT, hs, hB, q⟩ := h
  obtain ⟨u, rfl, r1⟩ := vals1 r
  obtain rfl : u = Value.ref a := r1
  have ho := exq_at I.hok ha
  obtain ⟨_, its, rv, o, h1, h2, n, h3⟩ := (show ObjOk X.prog X.w H s.heap t (.tup [.str x]) from I.hok t _ hT)
  obtain ⟨v, rfl, tk, rfl⟩ := vals1 rv
  exact PySem.P.str_of_C_one hu ⟨I.kIn, _, _, ho, rfl, rfl, rfl⟩ ⟨o, n, h1, h2, h3⟩ hs hB ⟨.str x, H, I, ⟨tk, rfl⟩, q⟩
end
/-! ### data as text, a dict of one empty tuple among it -/
def oneD (a t : Addr) (H : Hp) : Prop := H a = some (.dK [((Sum.inr "a" : Key), V.ref t)]) ∧ H t = some (.tup [])
def Dz (K : PySem.W.Frag) (H : Hp) (v : V) (d : PyData) : Prop := (Dp K H v d ∧ d.hasDict = false) ∨ ∃ a t, v = .ref a ∧ oneD a t H ∧ d = .dict [(.str "a", .tuple [])]
section
variable {X : Cx} {e : Expr} {te : TE} {pos : Pos} {pins : List (Addr × Obj)} {σ : L2.St} {H : Hp} {s : Shared}
theorem oneD_reads {a t : Addr} (I : Inv X pins σ H s) (h : oneD a t H) : ∃ as, Reads s.heap (.ref a) (.dict [(.str "a", .tuple [])]) as ∧ sysModules ∉ as := by
  obtain ⟨h1, h2⟩ := h
  obtain ⟨hk, hne, vs, rel, dd⟩ := dk_of I.hok h1
  cases rel with
  | @cons _ q _ _ e r =>
    cases r
    obtain ⟨e1, e2⟩ := e
    obtain ⟨key, v⟩ := q
    have e1 : (Sum.inr "a" : Key) = key := e1
    have e2 : v = Value.ref t := e2
    subst e1 e2
    obtain ⟨_, its, rv, o, h3, h4, n, h5⟩ := (show ObjOk X.prog X.w H s.heap t (.tup []) from I.hok t _ h2)
    cases rv
    have rt : Reads s.heap (.ref t) (.tuple []) [] := .tuple h3 h4 h5 .nil
    refine ⟨_, PyProof.V.reads_dictOf kd_read dd (D := [(.str "a", .tuple [])]) (.cons rt .nil), fun z => ?_⟩
    have z : sysModules ∈ ([a] : List Addr) := by simpa using z
    rw [← List.mem_singleton.mp z] at hne
    exact absurd hne (by simp)
theorem Dz.reads {v : V} {u : Value} {d : PyData} (I : Inv X pins σ H s) (h : Dz X.K H v d) (r : RelV v u) : ∃ as, Reads s.heap u d as ∧ (d.hasDict = true → sysModules ∉ as) := by
  rcases h with ⟨h, e⟩ | ⟨a, t, rfl, h, rfl⟩
  · obtain ⟨as, rd⟩ := Dp.reads I d v u h r
    exact ⟨as, rd, fun z => by rw [e] at z; cases z⟩
  · cases r
    obtain ⟨as, rd, no⟩ := oneD_reads I h
    exact ⟨as, rd, fun _ => no⟩
end
/-- {x!r}, x data -/
def tFmtZ (K : PySem.W.Frag) (te : TE) : TE := fun σ H Q => te σ H fun x H1 => ∃ d : PyData, Dz K H1 x d ∧ d.showable = true ∧ d.depth ≤ 20 ∧ d.shown.length ≤ sizeLine ∧ Q (.str d.shown) H1
section
variable {X : Cx} {e : Expr} {te : TE} {pos : Pos}
theorem pe_fmtZ (hG : X.A.guards = some []) (hu : X.A.units + 64 < cLine) (he : PE X e te) : PE X (.FormattedValue e 114 none pos) (tFmtZ X.K te) := by
  refine ⟨fun pins s σ H Q I h => ?_⟩
  refine wpAny_FormattedValue_repr (thn (he.run pins s σ H _ I h) fun v s1 hv => ?_)
  obtain ⟨x, H1, I1, r1, d, hd, h1, h2, h3, q⟩ := hv
  obtain ⟨as, rd, no⟩ := hd.reads I1 r1
  have fin : ∀ (h' : Heap) (u : Tok) (tk : Nat), (∀ b o, s1.heap.get? b = some o → h'.get? b = some o) → wpAny (model X.prog X.w) X.A (formatField (.str d.shown u) Str.empty) (EP X pins σ Q) X.xe { s1 with heap := h', toks := tk } := fun h' u tk k =>
    wpAny_formatField_str ⟨.str d.shown, H1, I1.kept (t' := tk) k, ⟨_, rfl⟩, q⟩ ⟨.str d.shown, H1, (I1.kept (t' := tk) k).tok _, ⟨_, rfl⟩, q⟩ h3
  have all := @pyRepr_of_reads_sz
  cases rd with
  | none => exact pyReprObj_none (fin _ _ _ fun _ _ z => z)
  | bool b => exact pyReprObj_bool (fin _ _ _ fun _ _ z => z)
  | int i t => exact pyReprObj_int (by simpa [PyData.showable] using h1) (fin _ _ _ fun _ _ z => z)
  | str y t => exact pyReprObj_str (fin _ _ _ fun _ _ z => z) (by simpa only [PyData.shown] using h3)
  | list a b c d' => exact pyReprObj_of_reads (h₀ := s1.heap) (.list a b c d') h1 no hG (by omega) (fun _ _ z => z) fin h3
  | tuple a b c d' => exact pyReprObj_of_reads (h₀ := s1.heap) (.tuple a b c d') h1 no hG (by omega) (fun _ _ z => z) fin h3
  | dict a b c d' e' => exact pyReprObj_of_reads (h₀ := s1.heap) (.dict a b c d' e') h1 no hG (by omega) (fun _ _ z => z) fin h3
/-- list * n, the new one is not sys.modules -/
def rRepB : R2 := fun x y H Q => ∃ l k xs, x = .ref l ∧ y = .int k ∧ H l = some (.lst xs) ∧ -(2 ^ 63) ≤ k ∧ k < 2 ^ 63 ∧ xs.length * k.toNat ≤ sizeLine ∧ ∀ p, H p = none → p ≠ sysModules → Q (.ref p) (upd H p (.lst (List.replicate k.toNat xs).flatten))
theorem op_repB : OpR X (binaryOp .Mult) rRepB := by
  intro pins s σ H x y v u Q I rx ry h
  obtain ⟨l, k, xs, rfl, rfl, hH, h1, h2, hz, q⟩ := h
  cases rx
  obtain ⟨t, rfl⟩ := ry
  obtain ⟨z, its, n, r, hl, e⟩ := I.lstM hH
  have a1 : its.toArray.size * k.toNat ≤ sizeLine := by rw [List.size_toArray, ← hl]; exact hz
  have a2 : ¬ its.toArray.size * k.toNat > (2 ^ 63 - 1) / 8 := by
    have : (sizeLine : Nat) ≤ (2 ^ 63 - 1) / 8 := by decide
    omega
  have a3 : ¬ (!Builtin.List.listFitsIndex k) = true := by
    rw [fitsIndex_both h1 h2]
    exact Bool.false_ne_true
  have a4 : ¬ Builtin.List.listTooLong (its.toArray.size * k.toNat) = true := by
    rw [notLongL a1]
    exact Bool.false_ne_true
  have a5 : ∀ m : Nat, List.foldl (fun x1 x2 => x1 ++ x2) #[] (List.replicate m its.toArray) = (List.replicate m its).flatten.toArray := fun m => by
    have := foldl_rep its m []
    rw [List.nil_append] at this
    exact this
  have a6 : List.foldl (fun x1 x2 => x1 ++ x2) #[] (List.replicate (if its.toArray.isEmpty = true then 0 else k.toNat) its.toArray) = (List.replicate k.toNat its).flatten.toArray := by
    rw [a5]
    cases its with
    | nil => simp
    | cons a r' => rw [if_neg (by simp)]
  refine wpAny_binaryOp_repeat_ref (T := "list") (U := "int") (by decide) ⟨_, e, rfl⟩ (fun s' => typeIs_int s' k t) noFill_list_mul F.fills_int_mul F.slot_int_rmul repeat_list F.slot_int_index.lookup
    (call_meets F.slot_int_rmul (typeIs_int s k t) F.entry_int_rmul (F.args_int_rmul_2 _ _) (int___rmul___int_list k t l its.toArray n)
      ⟨e, rfl, ⟨_, e, rfl⟩, call_meets F.slot_list_mul ⟨_, e, rfl⟩ F.entry_list_mul (F.args_list_mul_2 _ _) (AutoListH.list___mul___list_int_3 l its.toArray n k t a3 a2 a4) ⟨e, ?_⟩⟩)
  rw [a6]
  exact ⟨.ref _, _, I.lnew (t' := s.toks) (r.rep k.toNat) (by rw [PyProof.Rows.lm_len_rep_flat, Nat.mul_comm]; exact hz), rfl, q _ I.fresh (Nat.ne_of_gt I.big)⟩
/-- repr of data -/
theorem call_reprZ (hG : X.A.guards = some []) (hu : X.A.units + 64 < cLine) : CallR X (.builtin "repr") (fun xs H Q => ∃ (v : V) (d : PyData), xs = [v] ∧ Dz X.K H v d ∧ d.showable = true ∧ d.depth ≤ 20 ∧ d.shown.length ≤ sizeLine ∧ Q (.str d.shown) H) := by
  intro pins s σ H xs us Q I r h
  obtain ⟨v, d, rfl, hd, h1, h2, h3, q⟩ := h
  obtain ⟨u, rfl, r1⟩ := vals1 r
  obtain ⟨as, rd, no⟩ := hd.reads I r1
  have fin : ∀ (h' : Heap) (u : Tok) (tk : Nat), (∀ b o, s.heap.get? b = some o → h'.get? b = some o) → EP X pins σ Q (.str d.shown u) { s with heap := h', toks := tk } := fun h' u tk k => ⟨.str d.shown, H, I.kept k, ⟨u, rfl⟩, q⟩
  cases rd with
  | none => exact PySem.P.repr_of_none (fin _ _ _ fun _ _ z => z)
  | bool b => exact PySem.P.repr_of_bool (fin _ _ _ fun _ _ z => z)
  | int i t => exact PySem.P.repr_of_int (by simpa [PyData.showable] using h1) (fin _ _ _ fun _ _ z => z)
  | str y t => exact PySem.P.repr_of_str (fin _ _ _ fun _ _ z => z) (by simpa only [PyData.shown] using h3)
  | list a b c d' => exact repr_of_reads' (h₀ := s.heap) (.list a b c d') h1 no hG (by omega) (fun _ _ z => z) fin h3
  | tuple a b c d' => exact repr_of_reads' (h₀ := s.heap) (.tuple a b c d') h1 no hG (by omega) (fun _ _ z => z) fin h3
  | dict a b c d' e' => exact repr_of_reads' (h₀ := s.heap) (.dict a b c d' e') h1 no hG (by omega) (fun _ _ z => z) fin h3
end
/-! ### an own exception that a def makes -/
structure MakE (P : Program) (w : World) (K : PySem.W.Frag) (mg : Str → Option Value) (base : Heap) (C : Addr) (i : String) (k : Nat) (ps : List Str) (sp : Sp) : Prop where
  ex : ∃ fI fd, FnOkG P w K mg base CX0 k fI fd ps sp ∧ PySem.W.findIn K (.ref C) "__init__" = some (some (.ref fI)) ∧ PySem.W.typeIn K (.ref fI) = some (.type "function") ∧ Binds K fd ps []
  o : OexB K C i
section
variable {X : Cx} {C : Addr} {i : String} {k : Nat} {ps : List Str} {sp : Sp} {e : Expr} {es : List Expr} {ta : TA} {x : Str} {p pos : Pos}
theorem pe_makeE (c : MakE X.prog X.w X.K X.mg X.base C i k ps sp) (hr : Room (k + 1) X.A) (hG : X.A.guards = some []) (hg : Gl X x) (hm : X.mg x = some (.ref C)) (ha : PA X (e :: es) ta)
    (hdb : (x == ("__debug__" : Str)) = false := by decide) (he : starEach (e :: es) X.env = (false, eval e X.env) :: starEach es X.env := by rfl) (hpl : (backTo pos (starEach es X.env)).any (·.1) = false := by rfl) :
    PE X (.Call (.Name x p) (e :: es) [] pos) (tMkE C sp ta) := by
  obtain ⟨fI, fd, F1, iC, tI, hb⟩ := c.ex
  exact pe_mkE c.o iC tI F1 hr hG hb hg hm ha hdb he hpl
end
/-! ### a text taken a number of times -/
def repS (x : Str) (n : Int) : Str := if n < 1 then Str.empty else if (n == 1 || x.length == 0) = true then x else ⟨(List.replicate n.toNat x.cps).foldl (· ++ ·) #[]⟩
def rRepS : R2 := fun x y H Q => ∃ a n, x = .str a ∧ y = .int n ∧ a.length = 1 ∧ 0 ≤ n ∧ n ≤ 1000 ∧ Q (.str (repS a n)) H
theorem fold_size {α : Type} (c : Array α) : ∀ (m : Nat) (acc : Array α), ((List.replicate m c).foldl (· ++ ·) acc).size = acc.size + m * c.size
  | 0, acc => by simp
  | m + 1, acc => by
    rw [List.replicate_succ, List.foldl_cons, fold_size c m, Array.size_append, Nat.succ_mul]
    omega
section
variable {X : Cx}
theorem op_repS : OpR X (binaryOp .Mult) rRepS := by
  intro pins s σ H x y v u Q I rx ry h
  obtain ⟨a, n, rfl, rfl, h1, h2, h3, q⟩ := h
  obtain ⟨t, rfl⟩ := rx
  obtain ⟨t2, rfl⟩ := ry
  refine PySem.P.mul_str ?_ ?_ ?_ ?_
  · rw [decide_eq_false (by omega), decide_eq_false (by omega)]
    rfl
  · intro c1 c2
    rw [h1]
    intro z
    have : (2 ^ 63 - 1 : Int) / n ≥ 1 := Int.le_ediv_of_mul_le (by omega) (by omega)
    omega
  · intro c1 c2
    rw [h1]
    exact decide_eq_false (by rw [sizeLine_eq]; omega)
  · have q' : Q (V.str (if n < 1 then Str.empty else if (n == 1 || a.length == 0) = true then a else ⟨(List.replicate n.toNat a.cps).foldl (· ++ ·) #[]⟩)) H := q
    split
    · rename_i c
      rw [if_pos c] at q'
      exact ⟨by decide, .str _, H, I.tok _, ⟨_, rfl⟩, q'⟩
    · rename_i c
      rw [if_neg c] at q'
      split
      · rename_i c2
        rw [if_pos c2] at q'
        exact ⟨.str _, H, I, ⟨_, rfl⟩, q'⟩
      · rename_i c2
        rw [if_neg c2] at q'
        refine ⟨?_, .str _, H, I.tok _, ⟨_, rfl⟩, q'⟩
        show ((List.replicate n.toNat a.cps).foldl (· ++ ·) #[]).size ≤ sizeLine
        have e : a.cps.size = 1 := h1
        rw [fold_size, e, sizeLine_eq]
        show 0 + n.toNat * 1 ≤ _
        omega
end
/-! ### repr of a list of like things -/
section
variable {X : Cx} {pins : List (Addr × Obj)} {σ : L2.St} {H : Hp} {s : Shared}
theorem dz_all {D : PyData} (I : Inv X pins σ H s) : ∀ {vs : List V} {us : List Value}, (∀ v ∈ vs, Dz X.K H v D) → Vals vs us → ∃ as, ReadsAll s.heap us (List.replicate vs.length D) as ∧ (D.hasDict = true → sysModules ∉ as)
  | [], _, _, .nil => ⟨[], .nil, fun _ => by simp⟩
  | v :: vs, _, h, .cons r rs => by
    obtain ⟨as, r1, n1⟩ := (h v List.mem_cons_self).reads I r
    obtain ⟨bs, r2, n2⟩ := dz_all I (fun w m => h w (List.mem_cons_of_mem _ m)) rs
    exact ⟨as ++ bs, .cons r1 r2, fun z => by rw [List.mem_append]; exact fun k => k.elim (n1 z) (n2 z)⟩
theorem flat_all {D : PyData} (h : D.hasDict = false) : ∀ n : Nat, PyData.hasDictAll (List.replicate n D) = false
  | 0 => by simp [PyData.hasDictAll]
  | n + 1 => by
    rw [List.replicate_succ]
    simp only [PyData.hasDictAll]
    rw [h, flat_all h n]
    rfl
theorem call_reprL (hG : X.A.guards = some []) (hu : X.A.units + 64 < cLine) : CallR X (.builtin "repr") (fun xs H Q => ∃ (p : Addr) (vs : List V) (D : PyData), xs = [.ref p] ∧ p ≠ sysModules ∧ H p = some (.lst vs) ∧ (∀ v ∈ vs, Dz X.K H v D) ∧ (PyData.list (List.replicate vs.length D)).showable = true ∧ (PyData.list (List.replicate vs.length D)).depth ≤ 20 ∧ (PyData.list (List.replicate vs.length D)).shown.length ≤ sizeLine ∧ Q (.str (PyData.list (List.replicate vs.length D)).shown) H) := by
  intro pins s σ H xs us Q I r h
  obtain ⟨p, vs, D, rfl, np, hp, hv, h1, h2, h3, q⟩ := h
  obtain ⟨u, rfl, r1⟩ := vals1 r
  cases r1
  obtain ⟨its, rv, ⟨o, n, ho, hc, hdn, hdt⟩, hz⟩ := I.list (SqL.of hp)
  obtain ⟨as, ra, no⟩ := dz_all I hv rv
  refine repr_of_reads' (h₀ := s.heap) (Reads.list ho hc hdt ra) h1 (fun z => ?_) hG (by omega) (fun _ _ e => e) (fun h' u tk k => ⟨.str _, H, I.kept k, ⟨u, rfl⟩, q⟩) h3
  have hd : D.hasDict = true := by
    cases e : D.hasDict with
    | true => rfl
    | false =>
      simp only [PyData.hasDict] at z
      rw [flat_all e] at z
      cases z
  intro m
  rcases List.mem_cons.mp m with m | m
  · exact np m.symm
  · exact no hd m
end


end My
namespace My
open PySem PySem.Spec PyProof.Rows L2 TL
/-! ### the law's refusals told: try: x() / except A: return "a" / except B as error: return "b " + repr(error.f) .. return "fine" -/
/-! ### data as text, an empty dict among it -/
def DzE (K : PySem.W.Frag) (H : Hp) (v : V) (d : PyData) : Prop := Dz K H v d ∨ ∃ a, v = .ref a ∧ H a = some (.dK []) ∧ d = .dict []
section
variable {X : Cx} {pins : List (Addr × Obj)} {σ : L2.St} {H : Hp} {s : Shared}
theorem emptyD_reads {a : Addr} (I : Inv X pins σ H s) (h : H a = some (.dK [])) : ∃ as, Reads s.heap (.ref a) (.dict []) as ∧ sysModules ∉ as := by
  obtain ⟨hk, hne, vs, rel, dd⟩ := dk_of I.hok h
  cases rel
  refine ⟨_, PyProof.V.reads_dictOf kd_read dd (D := []) .nil, fun z => ?_⟩
  have z : sysModules ∈ ([a] : List Addr) := by simpa using z
  rw [← List.mem_singleton.mp z] at hne
  exact absurd hne (by simp)
theorem DzE.reads {v : V} {u : Value} {d : PyData} (I : Inv X pins σ H s) (h : DzE X.K H v d) (r : RelV v u) : ∃ as, Reads s.heap u d as ∧ (d.hasDict = true → sysModules ∉ as) := by
  rcases h with h | ⟨a, rfl, h, rfl⟩
  · exact h.reads I r
  · cases r
    obtain ⟨as, rd, no⟩ := emptyD_reads I h
    exact ⟨as, rd, fun _ => no⟩
theorem call_reprE (hG : X.A.guards = some []) (hu : X.A.units + 64 < cLine) : CallR X (.builtin "repr") (fun xs H Q => ∃ (v : V) (d : PyData), xs = [v] ∧ DzE X.K H v d ∧ d.showable = true ∧ d.depth ≤ 20 ∧ d.shown.length ≤ sizeLine ∧ Q (.str d.shown) H) := by
  intro pins s σ H xs us Q I r h
  obtain ⟨v, d, rfl, hd, h1, h2, h3, q⟩ := h
  obtain ⟨u, rfl, r1⟩ := vals1 r
  obtain ⟨as, rd, no⟩ := hd.reads I r1
  have fin : ∀ (h' : Heap) (u : Tok) (tk : Nat), (∀ b o, s.heap.get? b = some o → h'.get? b = some o) → EP X pins σ Q (.str d.shown u) { s with heap := h', toks := tk } := fun h' u tk k => ⟨.str d.shown, H, I.kept k, ⟨u, rfl⟩, q⟩
  cases rd with
  | none => exact PySem.P.repr_of_none (fin _ _ _ fun _ _ z => z)
  | bool b => exact PySem.P.repr_of_bool (fin _ _ _ fun _ _ z => z)
  | int i t => exact PySem.P.repr_of_int (by simpa [PyData.showable] using h1) (fin _ _ _ fun _ _ z => z)
  | str y t => exact PySem.P.repr_of_str (fin _ _ _ fun _ _ z => z) (by simpa only [PyData.shown] using h3)
  | list a b c d' => exact repr_of_reads' (h₀ := s.heap) (.list a b c d') h1 no hG (by omega) (fun _ _ z => z) fin h3
  | tuple a b c d' => exact repr_of_reads' (h₀ := s.heap) (.tuple a b c d') h1 no hG (by omega) (fun _ _ z => z) fin h3
  | dict a b c d' e' => exact repr_of_reads' (h₀ := s.heap) (.dict a b c d' e') h1 no hG (by omega) (fun _ _ z => z) fin h3
end
inductive RefC
  | word (C : Addr) (w : Str)
  | fld (C : Addr) (f pre : Str)
def rReprZ (K : PySem.W.Frag) : List V → Hp → VK → Prop := fun xs H Q => ∃ (v : V) (d : PyData), xs = [v] ∧ DzE K H v d ∧ d.showable = true ∧ d.depth ≤ 20 ∧ d.shown.length ≤ sizeLine ∧ Q (.str d.shown) H
def rCatS : R2 := fun x y H Q => ∃ i j, x = .str i ∧ y = .str j ∧ i.length + j.length ≤ sizeLine ∧ Q (.str (i ++ j)) H
/-- what the clauses make of an exception -/
def refX (K : PySem.W.Frag) (Q : Str → Hp → Prop) : List RefC → XK
  | [] => fun _ _ _ => False
  | .word C w :: r => fun cls d H => ∃ b, PySem.W.exmOne K cls (.ref C) = some b ∧ (b = true → Q w H) ∧ (b = false → refX K Q r cls d H)
  | .fld C f pre :: r => fun cls d H => ∃ b, PySem.W.exmOne K cls (.ref C) = some b ∧
      (b = true → cls = .ref C ∧ ∃ dd fs v D, d = some dd ∧ H dd = some (.xd fs) ∧ fs.lookup f = some v ∧ DzE K H v D ∧ D.showable = true ∧ D.depth ≤ 20 ∧ pre.length + D.shown.length ≤ 1000000 ∧ Q (pre ++ D.shown) H) ∧ (b = false → refX K Q r cls d H)
/-- the def's reading of the lambda's reading -/
def TRef (K : PySem.W.Frag) (fine : Str) (cl : List RefC) : (XK → Hp → VK → Prop) → Hp → VK → Prop := fun tl H Q => tl (refX K (fun w H' => Q (.str w) H') cl) H (fun _ H' => Q (.str fine) H')
def RefC.clause (K : PySem.W.Frag) : RefC → Clause
  | .word C w => ⟨.ref C, none, fun _ _ _ => tRet (tC (.str w))⟩
  | .fld C f pre => ⟨.ref C, some 1, fun a k d => tRet (tOp rCatS (tC (.str pre)) (tCB (rReprZ K) (tCons (tXf a k d C f (tVar 1)) tNil)))⟩
theorem refX_mix {K : PySem.W.Frag} {D : Ends} {Q : Str → Hp → Prop} (hD : ∀ w H, Q w H → D.rt (.str w) H) : ∀ (cl : List RefC) (k : Value) (d : Option Addr) (σ : L2.St) (H : Hp), σ.length = 2 → refX K Q cl k d H → wMix K (fun _ _ _ _ => False) D (cl.map (RefC.clause K)) k d σ H
  | [], _, _, _, _, _, h => h
  | .word C w :: r, k, d, σ, H, l, h => by
    obtain ⟨b, e, h1, h2⟩ := h
    exact ⟨b, e, fun y a _ => hD w H (h1 y), fun y => refX_mix hD r k d σ H l (h2 y)⟩
  | .fld C f pre :: r, k, d, σ, H, l, h => by
    obtain ⟨b, e, h1, h2⟩ := h
    refine ⟨b, e, fun y a ha => ?_, fun y => refX_mix hD r k d σ H l (h2 y)⟩
    obtain ⟨ek, dd, fs, v, D0, ed, hdd, lk, dz, sh, dep, len, q⟩ := h1 y
    have hσ : (σ.set 1 (some (V.ref a)))[1]? = some (some (V.ref a)) := List.getElem?_set_self (by omega)
    refine ⟨.ref a, hσ, rfl, ek, dd, fs, v, ed, hdd, lk, v, D0, rfl, dz, sh, dep, ?_, pre, D0.shown, rfl, rfl, ?_, hD _ H q⟩
    · rw [sizeLine_eq]
      omega
    · rw [sizeLine_eq]
      omega
section
open LamX
variable {X : Cx} {hds : List ExceptHandler} {cl : List RefC} {x w n f pre : Str} {C : Addr} {j j2 : Nat} {np pp p1 p2 p3 p4 p5 p6 p7 p8 : PySem.Pos}
theorem ref_word (named : Names X x (.ref C)) (r : ClsOk X hds (cl.map (RefC.clause X.K))) :
    ClsOk X (.ExceptHandler (some (.Name x np)) none [.Return (some (.Constant (.str w) j p1)) p2] pp :: hds) ((RefC.word C w :: cl).map (RefC.clause X.K)) :=
  .plain named (fun _ _ _ _ _ _ _ => pss_one (ps_ret pe_str)) r
theorem ref_fld (hG : X.A.guards = some []) (hu : X.A.units + 64 < cLine) (named : Names X x (.ref C)) (i1 : X.N[1]? = some n) (lcl : X.env.kindOf n = some .local) (vis : Vis X.env.scope n) (rg : Gl X "repr") (rb : X.mg "repr" = none) (xf : XfC X.K C) (fld : PySem.W.findIn X.K (.ref C) f = some none)
    (hd : (n == ("__debug__" : Str)) = false) (hcd : (n == ("__classdict__" : Str)) = false) (hb : ∀ e, attributeBase (.Name n p3) f X.env e = e) (r : ClsOk X hds (cl.map (RefC.clause X.K))) :
    ClsOk X (.ExceptHandler (some (.Name x np)) (some n) [.Return (some (.BinOp (.Constant (.str pre) j p1) .Add (.Call (.Name "repr" p2) [.Attribute (.Name n p3) f p4] [] p5) p6)) p7] pp :: hds) ((RefC.fld C f pre :: cl).map (RefC.clause X.K)) :=
  .bound i1 lcl named (fun a oe k d pn hz hf => pss_one (ps_ret (pe_op op_add_str pe_str (pe_callB (call_reprE hG hu) rg rb (by decide +kernel) (pa_cons (pe_xf xf fld hz hf (pe_var (i := 1) i1 vis hd hcd) (hb _)) pa_nil))))) r
theorem takes_len {W : WX} (tk : L2.Takes X W) : L2.Takes X (fun k d τ G => τ.length = X.N.length → W k d τ G) := fun u s' z => by
  obtain ⟨a, B, sI, pins, τ, G, k, d, e, J, nb, up, sky, na, os, ag, q⟩ := z
  exact tk u s' ⟨a, B, sI, pins, τ, G, k, d, e, J, nb, up, sky, na, os, ag, q J.len⟩
theorem refusal_gives {Ng : List Str} {a q fine : Str} {sg : Scope} {g : Addr} {cdg : Value} {h₀ : ExceptHandler} {j3 : Nat} {q1 q2 q3 q4 q5 q6 : PySem.Pos} (nd : Ng.Nodup) (two : Ng.length = 2) (h0 : ∀ f : Addr, (L2.start Ng [V.ref f])[0]? = some (some (V.ref f)))
    (ok : ∀ (s : Shared) (H : Hp), ClsOk (cxOf C8.CX0 X.prog X.w X.K X.mg X.base Ng x sg g cdg X.A X.stack s H C8.E0).nox (h₀ :: hds) (cl.map (RefC.clause X.K))) :
    GivesTo X Ng x sg g cdg [.Try [.Expr (.Call (.Name a q1) [] [] q2) q3] (h₀ :: hds) [] [] q4, .Return (some (.Constant (.str fine) j3 q5)) q6] a q (TRef X.K fine cl) := by
  intro f c' s H Q tl act hc h
  refine ⟨_, pss_cons (ps_try_mix (X := (cxOf C8.CX0 X.prog X.w X.K X.mg X.base Ng x sg g cdg X.A X.stack s H C8.E0).nox)
      (tb := fun W D σ H => ∃ Ech : XK, (∀ cls d σ' H', Ech cls d H' → σ'.length = Ng.length → W cls d σ' H') ∧ σ[0]? = some (some (.ref f)) ∧ H c' = some (CodeO c' q) ∧ tl Ech H fun _ H' => D.nx σ H')
      rfl rfl nd LamX.takes0 (fun W pn xe tk _ => ?_) (ok s H)) (pss_one (ps_ret pe_str)), ?_⟩
  · refine ⟨fun pins s' σ H' D I h' => ?_⟩
    obtain ⟨Ech, hW, h1, h2, h3⟩ := h'
    have hp := act _ pn xe Ech q1 q2 (takes_len tk) hW
    have hq := pss_one (ps_expr (pos := q3) hp)
    exact hq.run pins s' σ H' D I ⟨h1, h2, h3⟩
  · refine ⟨refX X.K (fun w H' => Q (.str w) H') cl, fun cls d σ' H' hh l => refX_mix (fun _ _ z => z) cl cls d σ' H' (by rw [l, two]) hh, h0 f, hc, h⟩
end


end My
namespace My
open PySem PySem.Spec PyProof.Rows L2 TL
/-! ### data that an exception keeps -/
mutual
/-- data all of whose objects lie in A -/
inductive Dw (A : Addr → Prop) (H : Hp) : V → PyData → Prop
  | non : Dw A H .non .none
  | bl (b : Bool) : Dw A H (.bl b) (.bool b)
  | int (i : Int) : Dw A H (.int i) (.int i)
  | str (x : Str) : Dw A H (.str x) (.str x)
  | lst {a : Addr} {xs : List V} {ds : List PyData} : xs.length ≤ 100 → A a → H a = some (.lst xs) → DwAll A H xs ds → Dw A H (.ref a) (.list ds)
  | tup {a : Addr} {xs : List V} {ds : List PyData} : xs.length ≤ 100 → A a → H a = some (.tup xs) → DwAll A H xs ds → Dw A H (.ref a) (.tuple ds)
inductive DwAll (A : Addr → Prop) (H : Hp) : List V → List PyData → Prop
  | nil : DwAll A H [] []
  | cons {v : V} {vs : List V} {d : PyData} {ds : List PyData} : Dw A H v d → DwAll A H vs ds → DwAll A H (v :: vs) (d :: ds)
end
mutual
theorem Dw.keep {A B : Addr → Prop} {H H' : Hp} (s : ∀ a o, A a → H a = some o → H' a = some o) (m : ∀ a o, H a = some o → A a → B a) : ∀ {v : V} {d : PyData}, Dw A H v d → Dw B H' v d
  | _, _, .non => .non
  | _, _, .bl b => .bl b
  | _, _, .int i => .int i
  | _, _, .str x => .str x
  | _, _, .lst z a h r => .lst z (m _ _ h a) (s _ _ a h) (DwAll.keep s m r)
  | _, _, .tup z a h r => .tup z (m _ _ h a) (s _ _ a h) (DwAll.keep s m r)
theorem DwAll.keep {A B : Addr → Prop} {H H' : Hp} (s : ∀ a o, A a → H a = some o → H' a = some o) (m : ∀ a o, H a = some o → A a → B a) : ∀ {v : List V} {d : List PyData}, DwAll A H v d → DwAll B H' v d
  | _, _, .nil => .nil
  | _, _, .cons h r => .cons (Dw.keep s m h) (DwAll.keep s m r)
end
mutual
theorem Dw.dp {K : PySem.W.Frag} {A : Addr → Prop} {H : Hp} : ∀ {v : V} {d : PyData}, Dw A H v d → Dp K H v d
  | _, _, .non => .non
  | _, _, .bl b => .bl b
  | _, _, .int i => .int i
  | _, _, .str x => .str x
  | _, _, .lst _ _ h r => .lst (SqL.of h) (DwAll.dp r)
  | _, _, .tup _ _ h r => .tup (SqT.of h) (DwAll.dp r)
theorem DwAll.dp {K : PySem.W.Frag} {A : Addr → Prop} {H : Hp} : ∀ {v : List V} {d : List PyData}, DwAll A H v d → DpAll K H v d
  | _, _, .nil => .nil
  | _, _, .cons h r => .cons (Dw.dp h) (DwAll.dp r)
end
mutual
theorem Dw.flat {A : Addr → Prop} {H : Hp} : ∀ {v : V} {d : PyData}, Dw A H v d → d.hasDict = false
  | _, _, .non => by simp only [PyData.hasDict]
  | _, _, .bl b => by simp only [PyData.hasDict]
  | _, _, .int i => by simp only [PyData.hasDict]
  | _, _, .str x => by simp only [PyData.hasDict]
  | _, _, .lst _ _ h r => by simp only [PyData.hasDict]; exact DwAll.flat r
  | _, _, .tup _ _ h r => by simp only [PyData.hasDict]; exact DwAll.flat r
theorem DwAll.flat {A : Addr → Prop} {H : Hp} : ∀ {v : List V} {d : List PyData}, DwAll A H v d → PyData.hasDictAll d = false
  | _, _, .nil => by simp only [PyData.hasDictAll]
  | _, _, .cons h r => by simp only [PyData.hasDictAll]; rw [Dw.flat h, DwAll.flat r]; rfl
end
theorem DwAll.len {A : Addr → Prop} {H : Hp} : ∀ {v : List V} {d : List PyData}, DwAll A H v d → v.length = d.length
  | _, _, .nil => rfl
  | _, _, .cons h r => congrArg (· + 1) (DwAll.len r)
theorem DwAll.get {A : Addr → Prop} {H : Hp} : ∀ {vs : List V} {ds : List PyData} {i : Nat} {v : V}, DwAll A H vs ds → vs[i]? = some v → ∃ d, ds[i]? = some d ∧ Dw A H v d
  | _, _, _, _, .nil, e => by cases e
  | _, _, 0, _, .cons h _, e => by cases e; exact ⟨_, rfl, h⟩
  | _, _, i + 1, _, .cons _ r, e => DwAll.get (i := i) r e
theorem DwAll.snoc {A : Addr → Prop} {H : Hp} {v : V} {d : PyData} : ∀ {vs : List V} {ds : List PyData}, DwAll A H vs ds → Dw A H v d → DwAll A H (vs ++ [v]) (ds ++ [d])
  | _, _, .nil, h => .cons h .nil
  | _, _, .cons a r, h => .cons a (DwAll.snoc r h)
theorem depth_mem {ds : List PyData} {d : PyData} : ∀ {i : Nat}, ds[i]? = some d → d.depth ≤ PyData.depthAll ds := by
  induction ds with
  | nil => intro i e; cases e
  | cons a r ih =>
    intro i e
    simp only [PyData.depthAll]
    cases i with
    | zero => cases e; exact Nat.le_max_left _ _
    | succ i => exact Nat.le_trans (ih (i := i) e) (Nat.le_max_right _ _)
theorem dc_keys {d : Addr} {o : Obj} {kvs : List (Key × V)} {g : TG} {tt : TT} {tk tv : TE} {vs : List Nat} {σ : L2.St} {H1 : Hp} {D : Addr} {Qd : Hp → Prop} (Pv : Nat → Hp → Prop) (h0 : Pv 0 (upd H1 D (.dK []))) (hl : ∀ i H, i ≤ kvs.length → Pv i H → H d = some (.frz o (.dK kvs)))
    (hs : ∀ i k v H, kvs[i]? = some (k, v) → Pv i H → g (kV k) (wipe σ vs) H fun σ2 H2 => wipe σ2 vs = wipe σ vs ∧ tt σ2 H2 fun b H3 =>
      if b = true then tk σ2 H3 fun y H4 => tv σ2 H4 fun z H5 => ∃ kvs k, y = kV k ∧ H5 D = some (.dK kvs) ∧ kvs.length < sizeLine ∧ Pv (i + 1) (upd H5 D (.dK (putK kvs k z))) else Pv (i + 1) H3) (hd : ∀ H, Pv kvs.length H → Qd H) :
    ∃ W : Nat → Nat → Hp → Prop, (∃ m, W 0 m (upd H1 D (.dK []))) ∧ ∀ i m H, W i m H →
      ((Itk d o kvs).stop i H ∧ Qd H) ∨ ((Itk d o kvs).go i H ∧ ∃ Nx : Hp → Prop, (∀ H', Nx H' → ∃ m', m' < m ∧ W (i + 1) m' H') ∧ ∀ v H', (Itk d o kvs).yld i H v H' → g v (wipe σ vs) H' fun σ2 H2 => wipe σ2 vs = wipe σ vs ∧ tt σ2 H2 fun b H3 =>
        if b = true then tk σ2 H3 fun y H4 => tv σ2 H4 fun z H5 => ∃ kvs k, y = kV k ∧ H5 D = some (.dK kvs) ∧ kvs.length < sizeLine ∧ Nx (upd H5 D (.dK (putK kvs k z))) else Nx H3) := by
  refine ⟨fun i m H => m = kvs.length - i ∧ i ≤ kvs.length ∧ Pv i H, ⟨kvs.length, by simp, Nat.zero_le _, h0⟩, ?_⟩
  rintro i m H ⟨rfl, hi, p⟩
  by_cases hlt : i < kvs.length
  · refine .inr ⟨⟨hl i H hi p, hlt⟩, Pv (i + 1), fun H' p' => ⟨kvs.length - (i + 1), by omega, rfl, hlt, p'⟩, fun x H' y => ?_⟩
    obtain ⟨e, k, v, ek, rfl⟩ := y
    subst e
    exact hs i k v _ ek p
  · have e : i = kvs.length := by omega
    exact .inl ⟨⟨hl i H hi p, by omega⟩, hd H (by rw [e] at p; exact p)⟩

/-! ### data that an error keeps, the empty dict among it -/
def DyE (A : Addr → Prop) (H : Hp) (v : V) (d : PyData) : Prop := Dw A H v d ∨ ∃ a, v = .ref a ∧ A a ∧ H a = some (.dK []) ∧ d = .dict []
theorem DyE.keep {A B : Addr → Prop} {H H' : Hp} (s : ∀ a o, A a → H a = some o → H' a = some o) (m : ∀ a o, H a = some o → A a → B a) {v : V} {d : PyData} (h : DyE A H v d) : DyE B H' v d := by
  rcases h with h | ⟨a, e, ha, h1, ed⟩
  · exact .inl (h.keep s m)
  · exact .inr ⟨a, e, m _ _ h1 ha, s _ _ ha h1, ed⟩
theorem DyE.same {A : Addr → Prop} {H H' : Hp} (s : Same H H') {v : V} {d : PyData} (h : DyE A H v d) : DyE A H' v d := h.keep (fun a o _ e => s a o e) fun _ _ _ x => x
theorem DyE.dz {K : PySem.W.Frag} {A : Addr → Prop} {H : Hp} {v : V} {d : PyData} (h : DyE A H v d) : DzE K H v d := by
  rcases h with h | ⟨a, e, _, h, ed⟩
  · exact .inl (.inl ⟨h.dp, h.flat⟩)
  · exact .inr ⟨a, e, h, ed⟩
def spr__kept (n : Nat) (K : PySem.W.Frag) : Sp := fun vs H Q _ => ∃ v d, vs = [v] ∧ DyE (fun _ => True) H v d ∧ d.depth ≤ n ∧ ∀ w H', Same H H' → DyE (fun a => H a = none) H' w d → Q w H'
def sp__kept (K : PySem.W.Frag) : Sp := spr__kept 5 K


end My
namespace My
open PySem PySem.Spec PyProof.Rows L2 TL
/-! ### own errors that keep a value, raised; their text needs that no repr is under way -/
section
variable {P : Program} {w : World} {K : PySem.W.Frag} {mg : Str → Option Value} {base : Heap}
theorem _root_.L2.Fun.okGX {x qual : Str} {st : Stmt} {f : Addr} {fd : FuncData} {N ps : List Str} {k : Nat} {sp : Sp} (F : Fun K x qual st f fd) (S : FnScope N ps (defScope st)) (ar : ∀ vs H Q E, sp vs H Q E → vs.length = ps.length)
    (body : ∀ (cv : Value) (B : Around) (fr : List Env) (t : Shared) (H : Hp) (vs : List V) (Q : VK) (E : XK), Room k (B.deeper (envOfC qual (defScope st) t.heap.objs.size f cv)) → (B.deeper (envOfC qual (defScope st) t.heap.objs.size f cv)).guards = some [] → sp vs H Q E →
      ∃ r, PSs (cxOf (L2.CX P w) P w K mg base N qual (defScope st) f cv B fr t H E) (defBody st) r ∧ r { nx := fun _ H' => Q .non H', rt := Q } (start N vs) H) : FnOkG P w K mg base (L2.CX P w) (k + 1) f fd ps sp := by
  obtain ⟨oc, od, kV, doc, pm, an, cv, ct, osl, rfl, found, isCode⟩ := F.ex
  refine ⟨ar, fun B fr t H args us vs Q E room still env binds vals wish => ?_⟩
  have there : K.In t.heap := env.mod.kin.keeps (fun b o e => (env.bs b o e).1)
  have noLim : t.heap.NoLimit := env.mod.nolimit.keeps (fun b o e => (env.bs b o e).1)
  have kinds : ∀ y ∈ ps.zip us, (defScope st).names.lookup y.1 = some .local ∨ ((defScope st).names.lookup y.1 = some .cell ∧ ((cellsFrom (t.heap.objs.size + 1) (defScope st).names []).lookup y.1).isSome = true) := by
    rintro ⟨n, v⟩ hy
    exact (S.par n (List.of_mem_zip hy).1).imp id fun q => ⟨q, PySem.W.cellsFrom_some _ _ _ (.inl q)⟩
  refine codeAny_call_function room.depth (there _ _ found)
    rfl S.co S.gen rfl (PySem.W.codeRec_of there isCode) (binds _ _ _ _
      (wpAny_newFunctionEnv_cells S.kind kinds fun env' eq t1 start1 => ?_))
  subst eq
  refine ⟨noLim.keeps start1.toInCall.keep, codeAny_func ?_⟩
  obtain ⟨r, runs, ends⟩ := body cv B fr t H vs Q E (room.deeper _) still wish
  refine wpAny_mono (runs.run [] t1 (start N vs) H _ (inv_start S room.hd env (ar _ _ _ _ wish) vals start1) ends) ?_ fun _ _ z => z
  intro fl t2 got
  cases fl with
  | ret u =>
    obtain ⟨v, σ', H', J, rv, q⟩ := got
    exact ⟨v, H', J.os, J.bare, J.base, J.hok, rv, q⟩
  | next =>
    obtain ⟨σ', H', J, q⟩ := got
    exact ⟨V.non, H', J.os, J.bare, J.base, J.hok, rfl, q⟩
  | brk => exact got.choose_spec.choose_spec.2.elim
  | cont => exact got.choose_spec.choose_spec.2.elim
end
/-- {x!r}, x data -/
def tFmtE (K : PySem.W.Frag) (te : TE) : TE := fun σ H Q => te σ H fun x H1 => ∃ d : PyData, DzE K H1 x d ∧ d.showable = true ∧ d.depth ≤ 20 ∧ d.shown.length ≤ sizeLine ∧ Q (.str d.shown) H1
section
variable {X : Cx} {e : Expr} {te : TE} {pos : Pos}
theorem pe_fmtE (hG : X.A.guards = some []) (hu : X.A.units + 64 < cLine) (he : PE X e te) : PE X (.FormattedValue e 114 none pos) (tFmtE X.K te) := by
  refine ⟨fun pins s σ H Q I h => ?_⟩
  refine wpAny_FormattedValue_repr (thn (he.run pins s σ H _ I h) fun v s1 hv => ?_)
  obtain ⟨x, H1, I1, r1, d, hd, h1, h2, h3, q⟩ := hv
  obtain ⟨as, rd, no⟩ := hd.reads I1 r1
  have fin : ∀ (h' : Heap) (u : Tok) (tk : Nat), (∀ b o, s1.heap.get? b = some o → h'.get? b = some o) → wpAny (model X.prog X.w) X.A (formatField (.str d.shown u) Str.empty) (EP X pins σ Q) X.xe { s1 with heap := h', toks := tk } := fun h' u tk k =>
    wpAny_formatField_str ⟨.str d.shown, H1, I1.kept (t' := tk) k, ⟨_, rfl⟩, q⟩ ⟨.str d.shown, H1, (I1.kept (t' := tk) k).tok _, ⟨_, rfl⟩, q⟩ h3
  cases rd with
  | none => exact pyReprObj_none (fin _ _ _ fun _ _ z => z)
  | bool b => exact pyReprObj_bool (fin _ _ _ fun _ _ z => z)
  | int i t => exact pyReprObj_int (by simpa [PyData.showable] using h1) (fin _ _ _ fun _ _ z => z)
  | str y t => exact pyReprObj_str (fin _ _ _ fun _ _ z => z) (by simpa only [PyData.shown] using h3)
  | list a b c d' => exact pyReprObj_of_reads (h₀ := s1.heap) (.list a b c d') h1 no hG (by omega) (fun _ _ z => z) fin h3
  | tuple a b c d' => exact pyReprObj_of_reads (h₀ := s1.heap) (.tuple a b c d') h1 no hG (by omega) (fun _ _ z => z) fin h3
  | dict a b c d' e' => exact pyReprObj_of_reads (h₀ := s1.heap) (.dict a b c d' e') h1 no hG (by omega) (fun _ _ z => z) fin h3
end
/-- what the written part says of an own error at C, over any built-in one -/
structure ErrE (K : PySem.W.Frag) (mg : Str → Option Value) (x : Str) (C fI : Addr) (i : String) (f : Str) : Prop where
  o : OexB K C i
  fld : PySem.W.findIn K (.ref C) f = some none
  g : mg x = some (.ref C)
  iC : PySem.W.findIn K (.ref C) "__init__" = some (some (.ref fI))
  tI : PySem.W.typeIn K (.ref fI) = some (.type "function")
def GoodD (d : PyData) : Prop := d.showable = true ∧ d.depth ≤ 5 ∧ d.shown.length ≤ 1000
/-- the error is made, such a value in its field -/
def sp_errE (C : Addr) (f : Str) : Sp := fun vs H Q _ => ∃ a v d, vs = [.ref a, v] ∧ H a = some (exo a C none) ∧ DyE (fun _ => True) H v d ∧ GoodD d ∧
  ∀ w e H', (∀ b o, b ≠ a → H b = some o → H' b = some o) → H' a = some (exo a C (some e)) → H' e = some (exd e [(f, w)]) → H e = none → e ≠ a → DyE (fun b => H b = none ∧ b ≠ e) H' w d → Q .non H'
/-- what is raised keeps an equal value -/
def ErrV (f : Str) (H H' : Hp) (dx : Addr) (d : PyData) : Prop := ∃ w, H' dx = some (.xd [(f, w)]) ∧ H dx = none ∧ Same H H' ∧ DyE (fun b => H b = none) H' w d
theorem ErrV.from {f : Str} {H H1 H' : Hp} {dx : Addr} {d : PyData} (h : ErrV f H1 H' dx d) (s : Same H H1) : ErrV f H H' dx d := by
  have back : ∀ b, H1 b = none → H b = none := fun b e => by
    cases z : H b with
    | none => rfl
    | some o => rw [s _ _ z] at e; cases e
  obtain ⟨w, h1, h2, h3, h4⟩ := h
  exact ⟨w, h1, back _ h2, s.trans h3, h4.keep (fun _ _ _ e => e) fun b _ _ => back b⟩
section
variable {X : Cx} {x f : Str} {C fI : Addr} {i : String} {k : Nat} {fd : FuncData} {ps : List Str} {e : Expr} {es : List Expr} {ta : TA} {p pos rpos : Pos} {sp : Sp}
theorem pmk_oexB (T : OexB X.K C i) (iC : PySem.W.findIn X.K (.ref C) "__init__" = some (some (.ref fI))) (tI : PySem.W.typeIn X.K (.ref fI) = some (.type "function"))
    (F1 : FnOkG X.prog X.w X.K X.mg X.base CX0 k fI fd ps sp) (hr : Room (k + 1) X.A) (hG : X.A.guards = some []) (hb : Binds X.K fd ps []) (hg : Gl X x) (hm : X.mg x = some (.ref C)) (ha : PA X (e :: es) ta)
    (hdb : (x == ("__debug__" : Str)) = false := by decide) (he : starEach (e :: es) X.env = (false, eval e X.env) :: starEach es X.env := by rfl) (hpl : (backTo pos (starEach es X.env)).any (·.1) = false := by rfl) :
    PMk X (.Call (.Name x p) (e :: es) [] pos) (tMkO C sp [] ta) := by
  intro pins s σ H Q I h
  obtain ⟨B, newId, bmB, b, ini, ov⟩ := T.b
  refine wpAny_Call_Name_kw (ld_glob I hg hm ?_ hdb)
  refine PySem.W.callWith_K (h₀ := X.base) I.ok.mod.kin T.kC (thn (ha.run pos pins s σ H _ I h) fun us s1 ⟨vs, H1, I1, r1, hz, q1⟩ => ⟨I1.kIn, ?_⟩) he hpl
  obtain ⟨nm, N', qn, bs, bm, hdct, sn, sub, ab, col, dd, k0, k1, k2, k3, k5, hC, hT⟩ := PySem.W.excInit_of I1.kIn ini
  obtain ⟨N0, i0, bm0, FN, hN⟩ := b.N
  show wpAny _ _ (call (.ref C) us) _ _ _
  obtain ⟨hp, g, dr, tk, os⟩ := s1
  have hsz : hp.objs.size ≤ hp.objs.size + 1 := Nat.le_succ _
  have hn : H1 (hp.objs.size + 1) = none := I1.hok.fresh hsz
  have hq := q1 (hp.objs.size + 1) hn
  rw [List.append_nil] at hq
  have kk : ∀ c o, hp.get? c = some o → ((hp.push (PySem.W.kdv_tup us)).push (PySem.HandSPX.excO C hp.objs.size)).get? c = some o := fun c o e => Heap.get?_push_of_some _ (Heap.get?_push_of_some _ e)
  have hget : ((hp.push (PySem.W.kdv_tup us)).push (PySem.HandSPX.excO C hp.objs.size)).get? (hp.objs.size + 1) = some (PySem.HandSPX.excO C hp.objs.size) := by heap_get
  have I2 : Inv X pins σ (upd H1 (hp.objs.size + 1) (exo (hp.objs.size + 1) C none)) ⟨(hp.push (PySem.W.kdv_tup us)).push (PySem.HandSPX.excO C hp.objs.size), g, dr, tk, os⟩ :=
    I1.laid (t' := tk) (a := hp.objs.size + 1) (o := exo (hp.objs.size + 1) C none) (h' := (hp.push (PySem.W.kdv_tup us)).push (PySem.HandSPX.excO C hp.objs.size)) kk hsz (exo_ok hget)
  have r2 : Vals (V.ref (hp.objs.size + 1) :: vs) (Value.ref (hp.objs.size + 1) :: us) := .cons rfl r1
  have hl : (Value.ref (hp.objs.size + 1) :: us ++ []).length = ps.length := by
    have e := r2.length
    rw [F1.arity _ _ _ _ hq] at e
    rw [List.append_nil]
    exact e.symm
  have hus : us.length ≤ sizeLine := by
    rw [← Paired.length r1, sizeLine_eq]
    omega
  have b2 := hb _ (Value.ref (hp.objs.size + 1) :: us) I2.kIn hl
  rw [List.append_nil] at b2
  refine wpAny_call (nw_call FN (by rw [hT]; exact hN) (by rw [hT]; exact b.hA) (by rw [hT]; exact b.hE) hC (PySem.W.looks_findIn I1.kIn iC) (fun self => PySem.W.bind_fn I1.kIn self tI) hus
    (codeAny_mono (F1.go _ X.stack _ _ ⟨Value.ref (hp.objs.size + 1) :: us, []⟩ (Value.ref (hp.objs.size + 1) :: us) _ _ (fun _ _ _ => False) (hr.make C us []) (by first | exact hG | (unfold Around.under; exact hG) | (unfold Around.under; split <;> exact hG)) (I2.env0.make C us []) b2 r2 hq) fun r s' hq' => ?_))
  cases r with
  | error er => exact pass0 pins σ _ _ er s' I2 hq'
  | ok fl =>
    cases fl with
    | ret u =>
      obtain ⟨v, H2, os2, bare2, un2, hok2, rv, ev, d, fs, ea, ed, hd1, q2⟩ := hq'
      subst ev
      obtain ⟨h2, g2, d2, t2, os'⟩ := s'
      exact ⟨rv, mk_end (raises_own T.exC T.tyC) I1 hsz kk un2 hok2 os2 bare2 ea ed hd1 q2⟩
    | next => exact False.elim hq'
    | brk => exact False.elim hq'
    | cont => exact False.elim hq'
/-- raise x(v): the error leaves the def -/
theorem ps_raiseE {W : WX} (T : ErrE X.K X.mg x C fI i f) (F1 : FnOkG X.prog X.w X.K X.mg X.base CX0 k fI fd ps (sp_errE C f)) (hr : Room (k + 1) X.A) (hG : X.A.guards = some []) (hb : Binds X.K fd ps []) (hc : X.calm = true) (tk : L2.Takes X W) (hg : Gl X x) (ha : PA X (e :: es) ta)
    (hdb : (x == ("__debug__" : Str)) = false := by decide) (he : starEach (e :: es) X.env = (false, eval e X.env) :: starEach es X.env := by rfl) (hpl : (backTo pos (starEach es X.env)).any (·.1) = false := by rfl) :
    PS X (.Raise (some (.Call (.Name x p) (e :: es) [] pos)) none rpos) (fun _ σ H => tMkO C (sp_errE C f) [] ta σ H fun cls d H' => W cls d σ H') :=
  ps_raise hc tk (pmk_oexB T.o T.iC T.tI F1 hr hG hb hg T.g ha hdb he hpl)
/-- what the making asks -/
theorem errE_use {H : Hp} {v : V} {d : PyData} {E : XK} (hv : DyE (fun _ => True) H v d) (gd : GoodD d) (q : ∀ dx H', ErrV f H H' dx d → E (.ref C) (some dx) H') :
    ([v] : List V).length ≤ 1000 ∧ ∀ a, H a = none → sp_errE C f (.ref a :: ([v] ++ [])) (upd H a (exo a C none))
      (fun v H2 => v = .non ∧ ∃ (d : Addr) (fs : List (Str × V)), H2 a = some (exo a C (some d)) ∧ H2 d = some (exd d fs) ∧ H d = none ∧ E (.ref C) (some d) (upd (del H2 a) d (.xd fs))) (fun _ _ _ => False) := by
  refine ⟨by show 1 ≤ 1000; decide, fun a ha => ⟨a, v, d, rfl, upd_same, hv.same (fun b o e => (upd_ne (ne_of_none e ha)).trans e), gd, fun w dx H' keep ha' hdx hd0 nda hw => ⟨rfl, dx, [(f, w)], ha', hdx, ?_, q dx _ ⟨w, upd_same, ?_, fun b o hb => ?_, hw.keep (fun b o hb e => ?_) fun b o hb e => ?_⟩⟩⟩⟩
  · rw [upd_ne nda] at hd0
    exact hd0
  · rw [upd_ne nda] at hd0
    exact hd0
  · rw [upd_ne nda] at hd0
    have nba : b ≠ a := ne_of_none hb ha
    rw [upd_ne (ne_of_none hb hd0), del_ne nba]
    exact keep b o nba (by rw [upd_ne nba]; exact hb)
  · have nba : b ≠ a := fun z => by rw [z, upd_same] at hb; cases hb.1
    rw [upd_ne hb.2, del_ne nba]
    exact e
  · have nba : b ≠ a := fun z => by rw [z, upd_same] at e; cases e.1
    have z := e.1
    rw [upd_ne nba] at z
    exact z
end
/-! ### x[i] by an own __getitem__ that may raise -/
structure MetGX (P : Program) (w : World) (K : PySem.W.Frag) (mg : Str → Option Value) (base : Heap) (C : Addr) (m : Str) (k : Nat) (ps : List Str) (sp : Sp) : Prop where
  ex : ∃ f fd, FnOkG P w K mg base (L2.CX P w) k f fd ps sp ∧ Meth K C m f ∧ Binds K fd ps []
section
variable {X : Cx} {k : Nat} {f C : Addr} {fd : FuncData} {ps : List Str} {sp : Sp} {E : XK} {o b : Expr} {m : Str} {ta tb : TE} {pos : Pos} {CX : CXT}
theorem Runs1.ofG (F : FnOkG X.prog X.w X.K X.mg X.base CX k f fd ps sp) (room : Room (k + 1) X.A) (hG : X.A.guards = some []) (binds : Binds X.K fd ps []) (pass : Passes CX X E) : Runs1 X f sp E := by
  intro pins σ H s Q us vs I r h
  have len : (us ++ []).length = ps.length := by rw [List.append_nil, ← r.length]; exact F.arity _ _ _ _ h
  have ran := F.go X.A.in1 X.stack s H ⟨us, []⟩ (us ++ []) vs Q E room.in1 hG I.env0.in1 (binds s us I.kIn len) (by rw [List.append_nil]; exact r) h
  refine wpAny_call (codeAny_mono ran ?_)
  intro r s' h
  match r, h with
  | .error e, h => exact pass pins σ H s e s' I h
  | .ok (.ret u), h => exact I.after h
  | .ok .next, h => exact False.elim h
  | .ok .brk, h => exact False.elim h
  | .ok .cont, h => exact False.elim h
def rIxE (C : Addr) (sp : Sp) (E : XK) : R2 := fun x y H Q => ∃ a dx fs, x = .ref a ∧ H a = some (.ins C dx fs) ∧ sp [x, y] H Q E
theorem pe_ixE (c : MetGX X.prog X.w X.K X.mg X.base C m k ps sp) (room : Room (k + 1) X.A) (hG : X.A.guards = some []) (pass : Passes (L2.CX X.prog X.w) X E) (ha : PE X o ta) (hi : PE X b tb) (fn : ∀ f, Meth X.K C m f → PySem.W.fnIn X.K f = true) (hm : m = "__getitem__" := by rfl)
    (hsl : ∀ (x : Addr) (i : Value), subscripted b true (.ref x) i = runValue (.builtin "lifetime.subscript" ⟨[.ref x, i], []⟩) := by intro _ _; with_unfolding_all rfl) : PE X (.Subscript o b pos) (tOp (rIxE C sp E) ta tb) := by
  subst hm
  obtain ⟨f, fd, ok, M, hb⟩ := c.ex
  refine ⟨fun pins s σ H Q I h => ?_⟩
  refine Subscript_ (binT ha hi I h fun v u s2 x y H2 I2 rx ry q => ?_)
  obtain ⟨a, dx, fs, rfl, hx, q⟩ := q
  cases rx
  obtain ⟨od, J⟩ := inst_at I2 hx
  obtain ⟨mm, fr⟩ := I2.fr
  exact PySem.W.sub_K fr I2.ok.mod.kin J M.at_ (fn f M) M.fn (Runs1.ofG ok room hG hb pass pins σ H2 s2 _ [.ref a, u] [.ref a, y] I2 (.cons rfl (.cons ry .nil)) q) (hsl a u)
end


end My
namespace My
open PySem PySem.Spec PyProof.Rows L2 TL
/-! ### a law with lambdas, called where no repr is under way -/
section
open PyProof.Rows
variable {P : Program} {w : World} {K : PySem.W.Frag} {mg mb : Str → Option Value} {CX : CXT} {k : Nat} {fa a : Addr} {cs : List (Addr × Addr)} {fd : FuncData} {x : Str} {sp : Sp} {t : Shared} {items : List Value} {ns : List Int}
/-- what may be known at the start: the tables, perhaps the script -/
def OnlyT (cs : List (Addr × Addr)) (H : Hp) : Prop := ∀ b, H b = none ∨ (H b = some (.tbl #[]) ∧ b ∈ cs.map (·.2)) ∨ ∃ o xs, H b = some (.frz o (.lst xs))
theorem call_fromT (inK : K.In t.heap) (glob : t.heap.Ns mainGlobals mg) (blt : t.heap.Ns builtinsNs mb) (bltBoot : ∀ x : Str, x ≠ "__name__" → mb x = bootBuiltins x) (noLim : t.heap.NoLimit) (noGens : t.gens = #[])
    (tabs : ∀ p ∈ cs, t.heap.get? p.2 = some { cls := .none, data := .fields #[] }) (tabK : ∀ p ∈ cs, K.lookup p.2 = none) (codes : ∀ p ∈ cs, PySem.W.CodeHd t.heap p.1 p.2)
    (bmain : ∃ (bm : Addr) (ob : Obj), mg "__builtins__" = some (.ref bm) ∧ bm ≠ builtinsNs ∧ t.heap.get? bm = some ob ∧ ob.cls = .type "module" ∧ ob.dict = some builtinsNs ∧ ob.data = .plain)
    (script : t.heap.get? a = some { cls := .type "list", data := .seq items.toArray }) (room : Room k callerA)
    (F : ∀ base : Heap, K.In base → base.Ns mainGlobals mg → (∀ p ∈ cs, LamX.TabB base mg p.1 p.2) → FnOkG P w K mg base CX k fa fd [x] sp) (binds : ∀ (s : Shared) (u : Value), BindsTo s fd ⟨[u], []⟩ [(x, u)])
    (none' : ∀ H e s', CX [] H t (fun _ _ _ => False) e s' → False)
    (H : Hp) (only : OnlyT cs H) (htab : ∀ p ∈ cs, H p.2 = some (.tbl #[])) (fine : HOk P w H t.heap) (atA : ∀ b, H b ≠ none → (b = a ∧ K.lookup a = none) ∨ b ∈ cs.map (·.2)) (wish : sp [.ref a] H (fun v _ => v = .bl true) fun _ _ _ => False) :
    codeAny (model P w) callerA (.call (.ref fa) ⟨[.ref a], []⟩) (fun r s' => r = .ok (.ret (.bool true)) ∧ OldK t.heap s'.heap ∧ s'.os = t.os ∧ AllBare s'.gens) t := by
  have tabAt : ∀ {b : Addr} {o : Obj}, b ∈ cs.map (·.2) → t.heap.get? b = some o → o = { cls := .none, data := .fields #[] } := fun {b o} hb e => by
    obtain ⟨p, hp, rfl⟩ := List.mem_map.mp hb
    rw [tabs p hp] at e
    exact (Option.some.inj e).symm
  have free : ∀ {b : Addr} {o : Obj}, t.heap.get? b = some o → (b = a → K.lookup a ≠ none ∨ o.data ≠ .seq items.toArray) → (b ∈ cs.map (·.2) → K.lookup b ≠ none ∨ o.data ≠ .fields #[]) → H b = none := by
    intro b o e h h2
    by_cases q : H b = none
    · exact q
    · rcases atA b q with ⟨rfl, kn⟩ | hb
      · rcases h rfl with h | h
        · exact absurd kn h
        · rw [script] at e
          cases e
          exact absurd rfl h
      · rcases h2 hb with h2 | h2
        · obtain ⟨p, hp, rfl⟩ := List.mem_map.mp hb
          exact absurd (tabK p hp) h2
        · rw [tabAt hb e] at h2
          exact absurd rfl h2
  have names : ∀ {b : Addr} {m : Str → Option Value}, t.heap.Ns b m → (hidT t.heap H).Ns b m := by
    rintro b m ⟨o, es, ep, e, d, r⟩
    exact ⟨o, es, ep, hidT_get e (free e (fun _ => .inr (by rw [d]; exact fun z => nomatch z)) fun _ => .inr (by rw [d]; exact fun z => nomatch z)), d, r⟩
  have inB : K.In (hidT t.heap H) := fun b o e => hidT_get (inK b o e) (free (inK b o e) (fun q => .inl (by
    subst q
    rw [e]
    exact fun z => nomatch z)) fun _ => .inl (by rw [e]; exact fun z => nomatch z))
  have module : Mod K mg (hidT t.heap H) := by
    obtain ⟨mc, l1, l2⟩ := noLim
    exact ⟨inB, names glob, ⟨mb, names blt, bltBoot⟩, ⟨mc, names l1, l2⟩⟩
  have ground : Env0 P w K mg (hidT t.heap H) callerA [] t H := by
    refine ⟨rfl, module, fun b o e => of_hidT e, ?_, trivial, ?_, fine, .of_eq noGens⟩
    · exact Nat.le_of_eq (hidT_size t.heap H)
    · intro b hb
      cases hb
  have known : ∀ p ∈ cs, LamX.TabB (hidT t.heap H) mg p.1 p.2 := fun p hp => by
    have hm : p.2 ∈ cs.map (·.2) := List.mem_map.mpr ⟨p, hp, rfl⟩
    refine ⟨?_, ?_, fun z => ?_⟩
    · obtain ⟨o, us, file, tf, flags, tg, inF, text, tt, e, r1, r2, r3, r⟩ := codes p hp
      refine ⟨o, us, file, tf, flags, tg, inF, text, tt, hidT_get e (free e (fun _ => .inr (by rw [r2]; exact fun z => nomatch z)) fun _ => .inr (by rw [r2]; intro z; cases z; simp at r3)), r1, r2, r3, r⟩
    · obtain ⟨bm, ob, b1, b2, b3, b4, b5, b6⟩ := bmain
      refine ⟨bm, ob, b1, b2, fun z => ?_, fun z => ?_, hidT_get b3 (free b3 (fun _ => .inr (by rw [b6]; exact fun z => nomatch z)) fun _ => .inr (by rw [b6]; exact fun z => nomatch z)), b4, b5, b6⟩
      · obtain ⟨o, es, ep, e, d, _⟩ := glob
        rw [z, e] at b3
        cases b3
        rw [d] at b6
        cases b6
      · rw [z, tabs p hp] at b3
        cases b3
        cases b6
    · obtain ⟨o, es, ep, e, d, _⟩ := glob
      rw [z, tabs p hp] at e
      cases e
      cases d
  have ran := (F _ inB (names glob) known).go callerA [] t H ⟨[.ref a], []⟩ [.ref a] [.ref a] (fun v _ => v = .bl true) (fun _ _ _ => False) room rfl ground (binds t (.ref a)) (.cons rfl .nil) wish
  refine codeAny_mono ran ?_
  intro r s' h
  match r, h with
  | .error e, h => exact (none' H e s' h).elim
  | .ok .next, h => exact False.elim h
  | .ok .brk, h => exact False.elim h
  | .ok .cont, h => exact False.elim h
  | .ok (.ret u), h =>
    obtain ⟨v, H', os, bare, un, fine', rel, rfl⟩ := h
    cases (show u = Value.bool true from rel)
    have kept : ∀ b o, b ∉ cs.map (·.2) → t.heap.get? b = some o → s'.heap.get? b = some o := by
      intro b o nb e
      cases q : H b with
      | none => exact un.keep b o e q (fun z => nomatch z) (fun z => nomatch z)
      | some u =>
        rcases only b with z | ⟨_, z⟩ | ⟨ob, xs, z⟩
        · exact absurd (z.symm.trans q) (fun y => nomatch y)
        · exact absurd z nb
        · have before := (fine b _ z).1
          have behind := (fine' b _ (un.frzs b ob _ z)).1
          rw [e] at before
          cases before
          exact behind
    have grown : ∀ p ∈ cs, ∃ more : Array Value, s'.heap.get? p.2 = some { cls := .none, data := .fields more } := fun p hp => by
      obtain ⟨more, z⟩ := un.tbls p.2 #[] (htab p hp)
      exact ⟨_, fine' p.2 _ z⟩
    refine ⟨rfl, ⟨fun b o e => ?_, fun b o e => ?_⟩, os, bare⟩ <;> by_cases hb : b ∈ cs.map (·.2)
    · have eo := tabAt hb e
      subst eo
      obtain ⟨p, hp, rfl⟩ := List.mem_map.mp hb
      obtain ⟨more, hm⟩ := grown p hp
      exact .inr (.inl ⟨((codes p hp).tab (tabs p hp)).isCodeTable, rfl, #[], more, rfl, by rw [Array.empty_append]; exact hm⟩)
    · exact .inl (kept b o hb e)
    · obtain ⟨p, hp, rfl⟩ := List.mem_map.mp hb
      obtain ⟨more, hm⟩ := grown p hp
      exact ⟨_, hm⟩
    · exact ⟨o, kept b o hb e⟩
/-- what is known of such a law at the head's heap -/
def LawAtG (l : PySem.W.OpenLaw) (w : World) (K : PySem.W.Frag) (CX : CXT) (k : Nat) (x : Str) (mg : Str → Option Value) (fa : Addr) (h : Heap) : Prop :=
  ∃ (fd : FuncData) (cs : List (Addr × Addr)) (sp : Sp), (∀ p ∈ cs, h.get? p.2 = some { cls := .none, data := .fields #[] }) ∧ (∀ p ∈ cs, K.lookup p.2 = none) ∧ (∀ p ∈ cs, PySem.W.CodeHd h p.1 p.2) ∧ (∀ (s : Shared) (u : Value), BindsTo s fd ⟨[u], []⟩ [(x, u)]) ∧
    (∀ (H : Hp) (a : Addr) (ns : List Int), ns.length ≤ 63 → (∀ p ∈ cs, H p.2 = some (.tbl #[])) → SqL K H a (ns.map V.int) → sp [.ref a] H (fun v _ => v = .bl true) fun _ _ _ => False) ∧
    ∀ base : Heap, K.In base → base.Ns mainGlobals mg → (∀ p ∈ cs, LamX.TabB base mg p.1 p.2) → FnOkG l.prog w K mg base CX k fa fd [x] sp
theorem walk_ofTG {l : PySem.W.OpenLaw} {k : Nat} {q : Program} {loose : List Str} {XP : (Str → Option Value) → Heap → Prop} {YP : World → Heap → Prop} {d : DefRec} {K : Params → PySem.W.Frag} {CX : World → CXT} {x : Str}
    (most : l.most = some 63) (plain : d.params.defaults = []) (room : Room k callerA) (hY : ∀ (w : World) (h : Heap), YP w h → (K w.params).In h)
    (F : ∀ (w : World) (mg : Str → Option Value) (fa : Addr) (h : Heap), YP w h → (K w.params).In h → h.Ns mainGlobals mg → mg d.name = some (.ref fa) → LawAtG l w (K w.params) (CX w) k x mg fa h)
    (none' : ∀ (w : World) (H : Hp) (s : Shared) (e : Value) (s' : Shared), CX w [] H s (fun _ _ _ => False) e s' → False) :
    PySem.W.WalkO q loose XP YP l.row.toRowW d [] (fun f vs => PySem.call f vs) := by
  refine Att.attach_call most plain ?_
  intro w s₀ s₁ mg mb fa o pm cd doc a vs ns G Y _ _ _ named script areInts len gens
  have inK := hY w _ Y
  obtain ⟨fd, cs, sp, tabs, tabK, codes, binds, wish, ok⟩ := F w mg fa _ Y inK G.T.g named
  have vals := vals_ints areInts
  have isT : ∀ b : Addr, b ∈ cs.map (·.2) → s₁.heap.get? b = some { cls := .none, data := .fields #[] } := fun b hb => by
    obtain ⟨p, hp, rfl⟩ := List.mem_map.mp hb
    exact tabs p hp
  have aT : a ∉ cs.map (·.2) := fun z => by
    have q := isT a z
    rw [script] at q
    cases q
  have memT : ∀ p ∈ cs, p.2 ∈ cs.map (·.2) := fun p hp => List.mem_map.mpr ⟨p, hp, rfl⟩
  cases kn : (K w.params).lookup a with
  | some o =>
    have o' := inK a o kn
    rw [script] at o'
    cases o'
    let H : Hp := fun b => if b ∈ cs.map (·.2) then some (.tbl #[]) else none
    have h1 : ∀ b, b ∈ cs.map (·.2) → H b = some (.tbl #[]) := fun b hb => if_pos hb
    have h2 : ∀ b, b ∉ cs.map (·.2) → H b = none := fun b hb => if_neg hb
    have ht : ∀ p ∈ cs, H p.2 = some (.tbl #[]) := fun p hp => h1 _ (memT p hp)
    refine call_fromT inK G.T.g G.T.b G.T.builtins G.T.nolimit gens tabs tabK codes G.T.bmain script room ok binds (none' w · s₁) H (fun b => ?_) ht (fun b u z => ?_) (fun b z => ?_) (wish H a ns len ht (.inr ⟨_, vs.toArray, _, kn, rfl, rfl, rfl, ?_, by simpa using vals⟩))
    · by_cases hb : b ∈ cs.map (·.2)
      · exact .inr (.inl ⟨h1 b hb, hb⟩)
      · exact .inl (h2 b hb)
    · by_cases hb : b ∈ cs.map (·.2)
      · rw [h1 b hb] at z
        cases z
        exact isT b hb
      · rw [h2 b hb] at z
        cases z
    · by_cases hb : b ∈ cs.map (·.2)
      · exact .inr hb
      · exact absurd (h2 b hb) z
    · rw [List.size_toArray, areInts.length]
      exact Nat.le_trans len (by decide)
  | none =>
    let H : Hp := fun b => if b = a then some (.frz { cls := .type "list", data := .seq vs.toArray } (.lst (ns.map V.int))) else if b ∈ cs.map (·.2) then some (.tbl #[]) else none
    have h0 : H a = some (.frz { cls := .type "list", data := .seq vs.toArray } (.lst (ns.map V.int))) := if_pos rfl
    have h1 : ∀ b, b ∈ cs.map (·.2) → H b = some (.tbl #[]) := fun b hb => (if_neg (show ¬ b = a from fun z => aT (by rw [← z]; exact hb))).trans (if_pos hb)
    have h2 : ∀ b, b ≠ a → b ∉ cs.map (·.2) → H b = none := fun b hb hb2 => (if_neg hb).trans (if_neg hb2)
    have ht : ∀ p ∈ cs, H p.2 = some (.tbl #[]) := fun p hp => h1 _ (memT p hp)
    refine call_fromT inK G.T.g G.T.b G.T.builtins G.T.nolimit gens tabs tabK codes G.T.bmain script room ok binds (none' w · s₁) H (fun b => ?_) ht (fun b u z => ?_) (fun b z => ?_) (wish H a ns len ht (.inl (.inr ⟨_, h0⟩)))
    · by_cases ha : b = a
      · exact .inr (.inr ⟨_, _, ha ▸ h0⟩)
      · by_cases hb : b ∈ cs.map (·.2)
        · exact .inr (.inl ⟨h1 b hb, hb⟩)
        · exact .inl (h2 b ha hb)
    · by_cases ha : b = a
      · subst ha
        rw [h0] at z
        cases z
        exact ⟨script, by rw [List.length_map]; exact Nat.le_trans len (by decide), vs, _, vals, script⟩
      · by_cases hb : b ∈ cs.map (·.2)
        · rw [h1 b hb] at z
          cases z
          exact isT b hb
        · rw [h2 b ha hb] at z
          cases z
    · by_cases ha : b = a
      · exact .inl ⟨ha, kn⟩
      · by_cases hb : b ∈ cs.map (·.2)
        · exact .inr hb
        · exact absurd (h2 b ha hb) z
end


end My
namespace My
open PySem PySem.Spec PyProof.Rows L2 TL
/-! ### defs that hand lambdas over; what is told so, one behind the other -/
theorem _root_.L2.Fun.okGC {P : Program} {w : World} {K : PySem.W.Frag} {mg : Str → Option Value} {base : Heap} {CX : CXT} {x qual : Str} {st : Stmt} {f : Addr} {fd : FuncData} {N ps : List Str} {k : Nat} {sp : Sp} (F : Fun K x qual st f fd) (S : FnScope N ps (defScope st)) (ar : ∀ vs H Q E, sp vs H Q E → vs.length = ps.length)
    (body : ∀ (B : Around) (fr : List Env) (t : Shared) (H : Hp) (vs : List V) (Q : VK) (E : XK), Room k (B.deeper (envOfC qual (defScope st) t.heap.objs.size f fd.code)) → (B.deeper (envOfC qual (defScope st) t.heap.objs.size f fd.code)).guards = some [] → sp vs H Q E →
      ∃ r, PSs (cxOf CX P w K mg base N qual (defScope st) f fd.code B fr t H E).nox (defBody st) r ∧ r { nx := fun _ H' => Q .non H', rt := Q } (start N vs) H) : FnOkG P w K mg base CX (k + 1) f fd ps sp := by
  obtain ⟨oc, od, kV, doc, pm, an, cv, ct, osl, rfl, found, isCode⟩ := F.ex
  refine ⟨ar, fun B fr t H args us vs Q E room still env binds vals wish => ?_⟩
  have there : K.In t.heap := env.mod.kin.keeps (fun b o e => (env.bs b o e).1)
  have noLim : t.heap.NoLimit := env.mod.nolimit.keeps (fun b o e => (env.bs b o e).1)
  have kinds : ∀ y ∈ ps.zip us, (defScope st).names.lookup y.1 = some .local ∨ ((defScope st).names.lookup y.1 = some .cell ∧ ((cellsFrom (t.heap.objs.size + 1) (defScope st).names []).lookup y.1).isSome = true) := by
    rintro ⟨n, v⟩ hy
    exact (S.par n (List.of_mem_zip hy).1).imp id fun q => ⟨q, PySem.W.cellsFrom_some _ _ _ (.inl q)⟩
  refine codeAny_call_function room.depth (there _ _ found)
    rfl S.co S.gen rfl (PySem.W.codeRec_of there isCode) (binds _ _ _ _
      (wpAny_newFunctionEnv_cells S.kind kinds fun env' eq t1 start1 => ?_))
  subst eq
  refine ⟨noLim.keeps start1.toInCall.keep, codeAny_func ?_⟩
  obtain ⟨r, runs, ends⟩ := body B fr t H vs Q E (room.deeper _) still wish
  refine wpAny_mono (runs.nox.run [] t1 (start N vs) H _ (inv_start S room.hd env (ar _ _ _ _ wish) vals start1) ends) ?_ fun _ _ z => z
  intro fl t2 got
  cases fl with
  | ret u =>
    obtain ⟨v, σ', H', J, rv, q⟩ := got
    exact ⟨v, H', J.os, J.bare, J.base, J.hok, rv, q⟩
  | next =>
    obtain ⟨σ', H', J, q⟩ := got
    exact ⟨V.non, H', J.os, J.bare, J.base, J.hok, rfl, q⟩
  | brk => exact got.choose_spec.choose_spec.2.elim
  | cont => exact got.choose_spec.choose_spec.2.elim
/-- one refusal told: the lambda's run, then what follows -/
theorem lam_run {T : List (Addr × Str)} {TT : (XK → Hp → VK → Prop) → Hp → VK → Prop} {t : XK → TE} {σ : L2.St} {H : Hp} {Q : VK} (w : Str) (tabs : LamX.Tabs T H) (run : ∀ H1, LamX.ExtN H H1 → LamX.Tabs T H1 → ∀ Q' : VK, (∀ H', Same H1 H' → Q' (.str w) H') → TT (fun E H' Q' => t E σ H' Q') H1 Q')
    (k : ∀ H', LamX.ExtN H H' → LamX.Tabs T H' → Q (.str w) H') : LamX.tLam T TT t σ H Q :=
  ⟨tabs, fun H1 e1 t1 => run H1 e1 t1 Q fun H' s => k H' (e1.trans (.of s)) (t1.ext s)⟩
/-- the list of what was told so far, over the heap ahead of it -/
structure Told (T : List (Addr × Str)) (Hb : Hp) (L : Addr) (ws : List Str) (H : Hp) : Prop where
  at_ : H L = some (.lst (ws.map V.str))
  tabs : LamX.Tabs T H
  far : LamX.ExtN Hb H
  new : ∀ o, (∀ ps, o ≠ .tbl ps) → Hb L ≠ some o
theorem tabs_lst {T : List (Addr × Str)} {H : Hp} {L : Addr} {xs ys : List V} (t : LamX.Tabs T H) (h : H L = some (.lst xs)) : LamX.Tabs T (upd H L (.lst ys)) := fun p hp => by
  obtain ⟨ps, h1, h2, h3⟩ := t p hp
  have no : ∀ b o, H b = some o → (∀ xs, o ≠ .lst xs) → upd H L (.lst ys) b = some o := fun b o hb nl => (upd_ne (fun z => by
    rw [z, h] at hb
    exact nl _ (Option.some.inj hb).symm)).trans hb
  refine ⟨ps, no _ _ h1 (fun xs z => nomatch z), h2, fun pos cv hc => ?_⟩
  obtain ⟨c, e1, e2⟩ := h3 pos cv hc
  exact ⟨c, e1, no _ _ e2 fun xs z => by
    unfold LamX.CodeO at z
    cases z⟩
section
variable {T : List (Addr × Str)} {TT : (XK → Hp → VK → Prop) → Hp → VK → Prop} {t : XK → TE} {σ : L2.St} {Hb H : Hp} {D : Ends} {u : TS} {i : Nat} {L : Addr} {ws : List Str}
theorem tell_first (w : Str) (tabs : LamX.Tabs T Hb) (run : ∀ H1, LamX.ExtN Hb H1 → ∀ Q' : VK, (∀ H', Same H1 H' → Q' (.str w) H') → TT (fun E H' Q' => t E σ H' Q') H1 Q')
    (k : ∀ L H', Told T Hb L [w] H' → u D (σ.set i (some (.ref L))) H') : tSeq (tAsg (tLst (tCons (LamX.tLam T TT t) tNil)) (gName i)) u D σ Hb := by
  refine lam_run w tabs (fun H1 e1 _ => run H1 e1) fun H2 e2 t2 => ⟨by show 1 ≤ sizeLine; decide, fun p hp => ?_⟩
  have s := (Same.refl H2).new (o := .lst [.str w]) hp
  exact k p _ ⟨upd_same, t2.ext s, e2.trans (.of s), fun o no h => by rw [e2 _ _ h no] at hp; cases hp⟩
theorem tell_next {K : PySem.W.Frag} (w : Str) (g : Told T Hb L ws H) (at_ : σ[i]? = some (some (.ref L))) (len : ws.length ≤ 100) (run : ∀ H1, LamX.ExtN Hb H1 → ∀ Q' : VK, (∀ H', Same H1 H' → Q' (.str w) H') → TT (fun E H' Q' => t E σ H' Q') H1 Q')
    (k : ∀ H', Told T Hb L (ws ++ [w]) H' → u D σ H') : tSeq (tDrop (tBM K "list" rAppend (tVar i) (tCons (LamX.tLam T TT t) tNil))) u D σ H := by
  refine ⟨.ref L, at_, .inl ⟨rfl, _, .inl (.inl g.at_)⟩, lam_run w g.tabs (fun H1 e1 _ => run H1 (g.far.trans e1)) fun H2 e2 t2 => ?_⟩
  have h2 : H2 L = some (.lst (ws.map V.str)) := e2 _ _ g.at_ fun _ z => nomatch z
  refine ⟨L, _, .str w, rfl, rfl, h2, lt_line' (by rw [List.length_map]; omega), k _ ⟨?_, tabs_lst t2 h2, fun b o h no => ?_, g.new⟩⟩
  · rw [upd_same, List.map_append]
    rfl
  · have q := e2 _ _ (g.far _ _ h no) no
    rw [upd_ne (fun z : b = L => g.new o no (by rw [← z]; exact h))]
    exact q
end
theorem dp_words {K : PySem.W.Frag} {H : Hp} : ∀ ws : List Str, DpAll K H (ws.map V.str) (ws.map PyData.str)
  | [] => .nil
  | w :: r => .cons (.str w) (dp_words r)
theorem words_eqv : ∀ ws : List Str, PyData.eqvAll (ws.map PyData.str) (ws.map PyData.str) = true
  | [] => by simp [PyData.eqvAll]
  | w :: r => by
    rw [List.map_cons, PyData.eqvAll, words_eqv r]
    simp [PyData.eqv]
theorem words_lay : ∀ ws : List Str, (ws.all fun w => PyData.strOk w) = true → PyData.canLayAll0 (ws.map PyData.str) = true ∧ PyData.depthAll (ws.map PyData.str) ≤ 1
  | [], _ => by simp [PyData.canLayAll0, PyData.depthAll]
  | w :: r, h => by
    rw [List.all_cons, Bool.and_eq_true] at h
    obtain ⟨h1, h2⟩ := words_lay r h.2
    rw [List.map_cons]
    simp only [PyData.canLayAll0, PyData.depthAll, h1]
    refine ⟨by simp [PyData.canLay0, h.1], ?_⟩
    simp only [PyData.depth]
    exact Nat.max_le.mpr ⟨Nat.zero_le _, h2⟩
theorem words_shaped (ws : List Str) (h : (ws.all fun w => PyData.strOk w) = true) : SeqAt.shaped (.list (ws.map PyData.str)) = true := by
  obtain ⟨h1, h2⟩ := words_lay ws h
  unfold SeqAt.shaped
  simp only [PyData.canLay0, PyData.depth, h1]
  simp
  omega
/-- what was told is what is due -/
theorem told_same {K : PySem.W.Frag} {G : Hp} {L p : Addr} {Q : VK} (ws : List Str) (h : G L = some (.lst (ws.map V.str))) (hp : G p = none) (q : Same G (upd G p (.lst (ws.map V.str))) → Q (.bl true) (upd G p (.lst (ws.map V.str)))) (ok : (ws.all fun w => PyData.strOk w) = true := by decide +kernel) :
    rEqD K (.ref L) (.ref p) (upd G p (.lst (ws.map V.str))) Q := by
  have s := (Same.refl G).new (o := .lst (ws.map V.str)) hp
  refine ⟨_, _, .lst (.inl (.inl (s _ _ h))) (dp_words ws), .lst (.inl (.inl upd_same)) (dp_words ws), words_shaped ws ok, words_shaped ws ok, ?_⟩
  rw [show PyData.eqv (.list (ws.map PyData.str)) (.list (ws.map PyData.str)) = true by rw [PyData.eqv]; exact words_eqv ws]
  exact q s


end My
namespace My
open PySem PySem.Spec PyProof.Rows L2 TL
/-! ### != of an instance and anything -/
section
variable {X : Cx} {k : Nat} {C : Addr} {ps : List Str} {sp : Sp} {E : XK}
/-- x != y, y anything -/
def rOwnNeX (K : PySem.W.Frag) (C : Addr) (sp : Sp) (E : XK) : R2 := fun x y H Q => ∃ a dx fs t0, x = .ref a ∧ H a = some (.ins C dx fs) ∧ TyX K H y t0 ∧ PySem.W.notFirst K C t0 = true ∧ sp [x, y] H (fun v H' => ∃ c, v = .bl c ∧ Q (.bl (!c)) H') E
theorem op_neX (c : MetC X.prog X.w X.K X.mg X.base C "__eq__" k ps sp) (rm : Room (k + 1) X.A) (ne : PySem.W.findIn X.K (.ref C) "__ne__" = some (some (.builtin "object.__ne__"))) (under : PySem.W.subIn X.K (.ref C) (.type "object") = some true) : OpR X (compareOp .NotEq) (rOwnNeX X.K C sp E0) := by
  obtain ⟨f, fd, ok, M, hb0⟩ := c.ex
  have R := Runs1.of (X := X) ok rm hb0 pass0
  have room : X.A.units + 1 < cLine := by have := rm.units; omega
  intro pins s σ H x y u v Q I rx ry h
  obtain ⟨a, dx, fs, t0, rfl, ha, ty, first, q⟩ := h
  cases rx
  obtain ⟨od, J⟩ := inst_at I ha
  obtain ⟨Ph, Z, p, hx⟩ := kit_of I ry ty
  have K' := I.kIn
  have hb := Z.ty (model X.prog X.w) _ K' p
  have sub : PySem.W.Looks (model X.prog X.w) s.heap (isInstance (.ref a) (.type "object")) true := J.type.andThen (PySem.W.looks_subIn K' under)
  have one : wpAny (model X.prog X.w) X.A (tryCompare (.ref a) "__ne__" v) (fun r s' => ∃ w, r = some w ∧ EP X pins σ Q w s') X.xe s := by
    unfold tryCompare
    refine wpAny_bind ?_
    simp only [callSpecialIfBound?, bindSpecialIfBound?]
    refine wpAny_holding (wpAny_bind (wpAny_bind (wpAny_bind (J.type.here ((PySem.W.looks_findIn K' ne).here ?_)))))
    simp only [PySem.F.cmp_object.ne.bind]
    have fin : wpAny (model X.prog X.w) X.A (call (.builtin "object.__ne__") [.ref a, v]) (fun w s' => EP X pins σ Q w s' ∧ w ≠ .notImplemented) X.xe s := by
      refine wpAny_call (codeAny_call_builtin PySem.F.cmp_object.ne.plain PySem.F.cmpEntry_ne (@PySem.W.check_slot (model X.prog X.w) _ _ s "object.__ne__" "object" "__ne__" (.ref a) [v] [] _ PySem.F.cmpKind_ne PySem.F.cmpSplit_ne sub (PySem.F.cmpArgs_ne _ _) ?_))
      unfold Builtin.«object.__ne__»
      refine wpAny_bind (m := slotArgs "__ne__" 1 _) (wpAny_pure ?_)
      refine wpAny_bind (wpAny_cRoomFor (by show X.A.units + 1 < cLine; exact room) (wpAny_bind ?_))
      refine PySem.W.ifBound_K K' J M.at_ M.fn (wpAny_mono (R pins σ H s _ [.ref a, v] [.ref a, y] I (.cons rfl (.cons ry .nil)) q) (fun w s' z => ?_) fun _ _ z => z)
      obtain ⟨v, H', I', r, c, rfl, q'⟩ := z
      cases r
      refine wpAny_bind (wpAny_truthy_bool ?_)
      exact wpAny_pure ⟨⟨.bl (!c), H', I', rfl, q'⟩, fun z => nomatch z⟩
    refine wpAny_bind (wpAny_askSetting (wpAny_ite ?_))
    split
    · refine wpAny_bind (wpAny_pure (wpAny_pure (wpAny_bind (wpAny_mono fin (fun w s' z => wpAny_pure ?_) fun _ _ z => z))))
      obtain ⟨z, no⟩ := z
      cases w <;> first | exact absurd rfl no | exact wpAny_pure ⟨_, rfl, z⟩
    · refine wpAny_tryCatch (wpAny_bind (wpAny_pure (wpAny_pure (wpAny_bind (wpAny_mono fin (fun w s' z => wpAny_pure ?_) fun _ _ z => z)))))
      obtain ⟨z, no⟩ := z
      cases w <;> first | exact absurd rfl no | exact wpAny_pure ⟨_, rfl, z⟩
  show wpAny (model X.prog X.w) X.A (richCompare .NotEq (.ref a) v) _ _ _
  unfold richCompare
  simp only [oneThing_ref]
  refine wpAny_holding (wpAny_bind (wpAny_cRoomFor (by omega) ?_))
  refine wpAny_bind (J.type.here (wpAny_bind (hb.here ?_)))
  split
  · rename_i q
    have e : PySem.W.subIn X.K t0 (.ref C) = some false := by
      rcases Bool.or_eq_true_iff.mp first with e | e
      · rw [beq_iff_eq.mp e] at q; simp at q
      · exact beq_iff_eq.mp e
    refine wpAny_bind ((PySem.W.looks_subIn K' e).here ?_)
    simp only [Bool.false_eq_true, if_false]
    refine wpAny_bind (wpAny_mono one (fun r s' z => ?_) fun _ _ e => e)
    obtain ⟨v, rfl, hq⟩ := z
    exact wpAny_pure hq
  · refine wpAny_bind (wpAny_pure ?_)
    simp only [Bool.false_eq_true, if_false]
    refine wpAny_bind (wpAny_mono one (fun r s' z => ?_) fun _ _ e => e)
    obtain ⟨v, rfl, hq⟩ := z
    exact wpAny_pure hq
end

/-! ### x != y, y an instance, x of a built-in type: the instance is asked -/
section
variable {prog : Program} {w : World}
theorem dne_list (l b C dx : Addr) (o : Obj) (ho : o.cls = .type "list") : MeetsIn prog w (Builtin.«list.__ne__» ⟨[.ref l, .ref b], []⟩)
    (fun _ R s => s.heap.get? l = some o ∧ s.heap.get? b = some (PySem.W.instObj C dx) ∧ PySem.W.Looks (model prog w) s.heap (isSubtype (.ref C) (.type "list")) false ∧ R (.ok (.ret .notImplemented)) s) := by
  intro A R s h
  obtain ⟨hp, g, d, tk, os⟩ := s
  obtain ⟨hl, hb, f1, h⟩ := h
  wp_walk using wpAny_loadPart' hl, wpAny_loadPart' hb
  refine f1.at ?_
  wp_walk
  exact h
theorem dne_tuple (l b C dx : Addr) (o : Obj) (ho : o.cls = .type "tuple") : MeetsIn prog w (Builtin.«tuple.__ne__» ⟨[.ref l, .ref b], []⟩)
    (fun _ R s => s.heap.get? l = some o ∧ s.heap.get? b = some (PySem.W.instObj C dx) ∧ PySem.W.Looks (model prog w) s.heap (isSubtype (.ref C) (.type "tuple")) false ∧ R (.ok (.ret .notImplemented)) s) := by
  intro A R s h
  obtain ⟨hp, g, d, tk, os⟩ := s
  obtain ⟨hl, hb, f1, h⟩ := h
  wp_walk using wpAny_loadPart' hl, wpAny_loadPart' hb
  refine f1.at ?_
  wp_walk
  exact h
theorem dne_dict (l b C dx : Addr) (o : Obj) (ho : o.cls = .type "dict") : MeetsIn prog w (Builtin.«dict.__ne__» ⟨[.ref l, .ref b], []⟩)
    (fun _ R s => s.heap.get? l = some o ∧ s.heap.get? b = some (PySem.W.instObj C dx) ∧ PySem.W.Looks (model prog w) s.heap (isSubtype (.ref C) (.type "dict")) false ∧ R (.ok (.ret .notImplemented)) s) := by
  intro A R s h
  obtain ⟨hp, g, d, tk, os⟩ := s
  obtain ⟨hl, hb, f1, h⟩ := h
  wp_walk using wpAny_loadPart' hl, wpAny_loadPart' hb
  refine f1.at ?_
  wp_walk
  exact h
theorem dne_int (i : Int) (t : Tok) (b C dx : Addr) : MeetsIn prog w (Builtin.«int.__ne__» ⟨[.int i t, .ref b], []⟩) (fun _ R s => s.heap.get? b = some (PySem.W.instObj C dx) ∧ R (.ok (.ret .notImplemented)) s) := by
  intro A R s h
  obtain ⟨hp, g, d, tk, os⟩ := s
  obtain ⟨hb, h⟩ := h
  wp_walk using wpAny_loadPart' hb, wpAny_load hb
  exact h
theorem dne_str (y : Str) (t : Tok) (b C dx : Addr) : MeetsIn prog w (Builtin.«str.__ne__» ⟨[.str y t, .ref b], []⟩) (fun _ R s => s.heap.get? b = some (PySem.W.instObj C dx) ∧ R (.ok (.ret .notImplemented)) s) := by
  intro A R s h
  obtain ⟨hp, g, d, tk, os⟩ := s
  obtain ⟨hb, h⟩ := h
  wp_walk using wpAny_loadPart' hb, wpAny_load hb
  exact h
end
/-- the left side -/
def LeftV (H : Hp) (x : V) (T : String) : Prop := (x = .non ∧ T = "NoneType") ∨ (∃ i, x = .int i ∧ T = "int") ∨ (∃ y, x = .str y ∧ T = "str") ∨ (∃ l xs, x = .ref l ∧ H l = some (.lst xs) ∧ T = "list") ∨ (∃ l xs, x = .ref l ∧ H l = some (.tup xs) ∧ T = "tuple") ∨ (∃ l kvs, x = .ref l ∧ H l = some (.dK kvs) ∧ T = "dict")
theorem LeftV.same {H H' : Hp} {x : V} {T : String} (s : Same H H') (h : LeftV H x T) : LeftV H' x T := by
  rcases h with h | h | h | ⟨l, xs, e, h, t⟩ | ⟨l, xs, e, h, t⟩ | ⟨l, xs, e, h, t⟩
  · exact .inl h
  · exact .inr (.inl h)
  · exact .inr (.inr (.inl h))
  · exact .inr (.inr (.inr (.inl ⟨l, xs, e, s _ _ h, t⟩)))
  · exact .inr (.inr (.inr (.inr (.inl ⟨l, xs, e, s _ _ h, t⟩))))
  · exact .inr (.inr (.inr (.inr (.inr ⟨l, xs, e, s _ _ h, t⟩))))
theorem declines {X : Cx} {pins : List (Addr × Obj)} {σ : L2.St} {H : Hp} {s : Shared} {x : V} {v : Value} {T : String} {a C dx : Addr} (I : Inv X pins σ H s) (rx : RelV x v) (hx : LeftV H x T) (ho : s.heap.get? a = some (PySem.W.instObj C dx)) (sub : PySem.W.Looks (model X.prog X.w) s.heap (isSubtype (.ref C) (.type T)) false) :
    s.TypeIs v T ∧ ∃ id, Slot T "__ne__" id ∧ ∀ (E : Value → Shared → Prop) (Q : Value → Shared → Prop), Q .notImplemented s → wpAny (model X.prog X.w) X.A (call (.builtin id) [v, .ref a]) Q E s := by
  rcases hx with ⟨rfl, rfl⟩ | ⟨i, rfl, rfl⟩ | ⟨y, rfl, rfl⟩ | ⟨l, xs, rfl, h, rfl⟩ | ⟨l, xs, rfl, h, rfl⟩ | ⟨l, kvs, rfl, h, rfl⟩
  · cases rx
    exact ⟨rfl, _, F.slot_NoneType_ne, fun E Q q => call_gives F.slot_NoneType_ne rfl F.entry_NoneType_ne (F.args_NoneType_ne_2 _ _) (PySem.SeqAt.NoneType___ne___none_ref_0 a) q⟩
  · obtain ⟨t, rfl⟩ := rx
    have ty : s.TypeIs (.int i t) "int" := typeIs_int s i t
    exact ⟨ty, _, F.slot_int_ne, fun E Q q => call_meetsIn F.slot_int_ne ty F.entry_int_ne (F.args_int_ne_2 _ _) (dne_int i t a C dx) ⟨ho, q⟩⟩
  · obtain ⟨t, rfl⟩ := rx
    have ty : s.TypeIs (.str y t) "str" := typeIs_str s y t
    exact ⟨ty, _, F.slot_str_ne, fun E Q q => call_meetsIn F.slot_str_ne ty F.entry_str_ne (F.args_str_ne_2 _ _) (dne_str y t a C dx) ⟨ho, q⟩⟩
  · cases rx
    obtain ⟨its, rv, ⟨o, n, h1, h2, h3, h4⟩, hz⟩ := I.list (SqL.of h)
    have ty : s.TypeIs (.ref l) "list" := ⟨_, h1, h2⟩
    exact ⟨ty, _, F.slot_list_ne, fun E Q q => call_meetsIn F.slot_list_ne ty F.entry_list_ne (F.args_list_ne_2 _ _) (dne_list l a C dx o h2) ⟨h1, ho, sub, q⟩⟩
  · cases rx
    obtain ⟨its, r, ⟨o, h1, h2, n, h3⟩, hs⟩ := I.tuple (SqT.of (K := X.K) h)
    have ty : s.TypeIs (.ref l) "tuple" := ⟨_, h1, h2⟩
    exact ⟨ty, _, F.slot_tuple_ne, fun E Q q => call_meetsIn F.slot_tuple_ne ty F.entry_tuple_ne (F.args_tuple_ne_2 _ _) (dne_tuple l a C dx o h2) ⟨h1, ho, sub, q⟩⟩
  · cases rx
    obtain ⟨hk, hne, vs, rel, o, es, ep, h1, h2, h3⟩ := dk_of I.hok h
    have ty : s.TypeIs (.ref l) "dict" := ⟨_, h1, h2.1⟩
    exact ⟨ty, _, F.slot_dict_ne, fun E Q q => call_meetsIn F.slot_dict_ne ty F.entry_dict_ne (F.args_dict_ne_2 _ _) (dne_dict l a C dx o h2.1) ⟨h1, ho, sub, q⟩⟩
/-- what the written part says: the class is of no built-in type -/
structure NeL (K : PySem.W.Frag) (C : Addr) : Prop where
  ne : PySem.W.findIn K (.ref C) "__ne__" = some (some (.builtin "object.__ne__"))
  under : PySem.W.subIn K (.ref C) (.type "object") = some true
  s : ∀ T ∈ ["NoneType", "int", "str", "list", "tuple", "dict"], PySem.W.subIn K (.ref C) (.type T) = some false
theorem LeftV.mem {H : Hp} {x : V} {T : String} (h : LeftV H x T) : T ∈ ["NoneType", "int", "str", "list", "tuple", "dict"] := by
  rcases h with ⟨_, rfl⟩ | ⟨_, _, rfl⟩ | ⟨_, _, rfl⟩ | ⟨_, _, _, _, rfl⟩ | ⟨_, _, _, _, rfl⟩ | ⟨_, _, _, _, rfl⟩ <;> decide
def rNeL (C : Addr) (sp : Sp) : R2 := fun x y H Q => ∃ a dx fs T, y = .ref a ∧ H a = some (.ins C dx fs) ∧ LeftV H x T ∧ sp [y, x] H (fun v H' => ∃ c, v = .bl c ∧ Q (.bl (!c)) H') E0
section
variable {X : Cx} {k : Nat} {C : Addr} {ps : List Str} {sp : Sp}
theorem op_neL (c : MetC X.prog X.w X.K X.mg X.base C "__eq__" k ps sp) (rm : Room (k + 1) X.A) (N : NeL X.K C) : OpR X (compareOp .NotEq) (rNeL C sp) := by
  obtain ⟨f, fd, ok, M, hb0⟩ := c.ex
  have R := Runs1.of (X := X) ok rm hb0 pass0
  have room : X.A.units + 1 < cLine := by have := rm.units; omega
  intro pins s σ H x y v u Q I rx ry h
  obtain ⟨a, dx, fs, T, rfl, ha, hx, q⟩ := h
  cases ry
  obtain ⟨od, J⟩ := inst_at I ha
  have K' := I.kIn
  have hsub := PySem.W.looks_subIn (M := model X.prog X.w) K' (N.s T hx.mem)
  obtain ⟨ty, id, slot, dec⟩ := declines I rx hx J.at_ hsub
  have sub : PySem.W.Looks (model X.prog X.w) s.heap (isInstance (.ref a) (.type "object")) true := J.type.andThen (PySem.W.looks_subIn K' N.under)
  have one : wpAny (model X.prog X.w) X.A (tryCompare (.ref a) "__ne__" v) (fun r s' => ∃ w, r = some w ∧ EP X pins σ Q w s') X.xe s := by
    unfold tryCompare
    refine wpAny_bind ?_
    simp only [callSpecialIfBound?, bindSpecialIfBound?]
    refine wpAny_holding (wpAny_bind (wpAny_bind (wpAny_bind (J.type.here ((PySem.W.looks_findIn K' N.ne).here ?_)))))
    simp only [PySem.F.cmp_object.ne.bind]
    have fin : wpAny (model X.prog X.w) X.A (call (.builtin "object.__ne__") [.ref a, v]) (fun w s' => EP X pins σ Q w s' ∧ w ≠ .notImplemented) X.xe s := by
      refine wpAny_call (codeAny_call_builtin PySem.F.cmp_object.ne.plain PySem.F.cmpEntry_ne (@PySem.W.check_slot (model X.prog X.w) _ _ s "object.__ne__" "object" "__ne__" (.ref a) [v] [] _ PySem.F.cmpKind_ne PySem.F.cmpSplit_ne sub (PySem.F.cmpArgs_ne _ _) ?_))
      unfold Builtin.«object.__ne__»
      refine wpAny_bind (m := slotArgs "__ne__" 1 _) (wpAny_pure ?_)
      refine wpAny_bind (wpAny_cRoomFor (by show X.A.units + 1 < cLine; exact room) (wpAny_bind ?_))
      refine PySem.W.ifBound_K K' J M.at_ M.fn (wpAny_mono (R pins σ H s _ [.ref a, v] [.ref a, x] I (.cons rfl (.cons rx .nil)) q) (fun w s' z => ?_) fun _ _ z => z)
      obtain ⟨v, H', I', r, c, rfl, q'⟩ := z
      cases r
      refine wpAny_bind (wpAny_truthy_bool ?_)
      exact wpAny_pure ⟨⟨.bl (!c), H', I', rfl, q'⟩, fun z => nomatch z⟩
    refine wpAny_bind (wpAny_askSetting (wpAny_ite ?_))
    split
    · refine wpAny_bind (wpAny_pure (wpAny_pure (wpAny_bind (wpAny_mono fin (fun w s' z => wpAny_pure ?_) fun _ _ z => z))))
      obtain ⟨z, no⟩ := z
      cases w <;> first | exact absurd rfl no | exact wpAny_pure ⟨_, rfl, z⟩
    · refine wpAny_tryCatch (wpAny_bind (wpAny_pure (wpAny_pure (wpAny_bind (wpAny_mono fin (fun w s' z => wpAny_pure ?_) fun _ _ z => z)))))
      obtain ⟨z, no⟩ := z
      cases w <;> first | exact absurd rfl no | exact wpAny_pure ⟨_, rfl, z⟩
  show wpAny (model X.prog X.w) X.A (richCompare .NotEq v (.ref a)) _ _ _
  unfold richCompare
  simp only [ty.oneThing_none]
  refine wpAny_holding (wpAny_bind (wpAny_cRoomFor (by omega) ?_))
  refine wpAny_bind (wpAny_typeOf ty (wpAny_bind (J.type.here ?_)))
  rw [if_pos (show (Value.type T != Value.ref C) = true from rfl)]
  refine wpAny_bind (hsub.here ?_)
  simp only [Bool.false_eq_true, if_false, Bool.not_false, if_true]
  refine wpAny_bind (m := tryCompare v _ (.ref a)) (wpAny_tryCompare_declines ty slot (dec _ _ ⟨rfl, ?_⟩))
  refine wpAny_bind (m := tryCompare (.ref a) _ v) (wpAny_mono one (fun r s' z => ?_) fun _ _ e => e)
  obtain ⟨v, rfl, hq⟩ := z
  exact wpAny_pure hq
end


end My
namespace My
open PySem PySem.Spec PyProof.Rows L2 TL
theorem odd_of {K : PySem.W.Frag} {C : Addr} {T : String} (hd : PySem.W.hasDictIn K C = true) (ty : PySem.W.typeIn K (.ref C) = some (.type "type")) (sb : PySem.W.subIn K (.type T) (.ref C) = some false) : PySem.W.kitOne K (.type T) (.ref C) = some false := by
  have h : (PySem.W.clsIn K C).isSome = true := by
    unfold PySem.W.hasDictIn at hd
    cases e : PySem.W.clsIn K C with
    | none => rw [e] at hd; cases hd
    | some c => rfl
  unfold PySem.W.kitOne
  have e : (Value.type T == Value.ref C) = false := by first | rfl | (apply Bool.eq_false_iff.mpr; intro z; exact Value.noConfusion (eq_of_beq z)) | simp
  rw [e]
  show (if ((PySem.W.clsIn K C).isSome && PySem.W.typeIn K (.ref C) == some (.type "type")) = true then PySem.W.subIn K (.type T) (.ref C) else none) = some false
  rw [if_pos (by rw [h, ty]; decide +kernel)]
  exact sb
theorem ni_of {K : PySem.W.Frag} {C : Addr} {T : String} (km : PySem.W.kitMeta T = true) (sb : PySem.W.subIn K (.ref C) (.type T) = some false) : PySem.W.kitOne K (.ref C) (.type T) = some false := by
  unfold PySem.W.kitOne
  have e : (Value.ref C == Value.type T) = false := by first | rfl | (apply Bool.eq_false_iff.mpr; intro z; exact Value.noConfusion (eq_of_beq z)) | simp
  rw [e]
  show (if PySem.W.kitMeta T = true then PySem.W.subIn K (.ref C) (.type T) else none) = some false
  rw [if_pos km]
  exact sb
theorem odc_of {K : PySem.W.Frag} {C A : Addr} (hd : PySem.W.hasDictIn K C = true) (ty : PySem.W.typeIn K (.ref C) = some (.type "type")) (sb : PySem.W.subIn K (.ref A) (.ref C) = some false) (ne : decide (A = C) = false) : PySem.W.kitOne K (.ref A) (.ref C) = some false := by
  have h : (PySem.W.clsIn K C).isSome = true := by
    unfold PySem.W.hasDictIn at hd
    cases e : PySem.W.clsIn K C with
    | none => rw [e] at hd; cases hd
    | some c => rfl
  unfold PySem.W.kitOne
  have e : (Value.ref A == Value.ref C) = false := Bool.eq_false_iff.mpr fun z => by
    have y := eq_of_beq z
    injection y with y
    exact (of_decide_eq_false ne) y
  rw [e]
  show (if ((PySem.W.clsIn K C).isSome && PySem.W.typeIn K (.ref C) == some (.type "type")) = true then PySem.W.subIn K (.ref A) (.ref C) else none) = some false
  rw [if_pos (by rw [h, ty]; decide +kernel)]
  exact sb


end My
namespace My
open PySem PySem.Spec PyProof.Rows L2 TL
/-! ### lists of pairs under way, the dicts of them -/
def PairsL (H0 : Hp) (D : Addr) (ws : List (Key × V)) (H : Hp) : Prop := ∃ ps : List Addr, H D = some (.lst (ps.map V.ref)) ∧ Paired (fun (p : Addr) (kv : Key × V) => H p = some (.tup [kV kv.1, kv.2])) ps ws ∧ Same H0 H
theorem PairsL.start {H0 : Hp} {D : Addr} (h : H0 D = none) : PairsL H0 D [] (upd H0 D (.lst [])) := ⟨[], upd_same, .nil, (Same.refl H0).mut h⟩
theorem PairsL.step {H0 H : Hp} {D p : Addr} {ws : List (Key × V)} (kv : Key × V) (g : PairsL H0 D ws H) (hD : H0 D = none) (hp : H p = none) (len : ws.length ≤ 900) :
    ∃ acc, upd H p (.tup [kV kv.1, kv.2]) D = some (.lst acc) ∧ acc.length < sizeLine ∧ PairsL H0 D (ws ++ [kv]) (upd (upd H p (.tup [kV kv.1, kv.2])) D (.lst (acc ++ [.ref p]))) := by
  obtain ⟨ps, h1, h2, s⟩ := g
  have s2 := (Same.refl H).new (o := .tup [kV kv.1, kv.2]) hp
  have np : p ≠ D := fun z => by rw [z, h1] at hp; cases hp
  have hp2 : upd H p (.tup [kV kv.1, kv.2]) p = some (.tup [kV kv.1, kv.2]) := upd_same
  have h3 := s2 _ _ h1
  have lp := Paired.length h2
  generalize upd H p (.tup [kV kv.1, kv.2]) = G at s2 hp2 h3 ⊢
  have tup : ∀ (q : Addr) (x : Key × V), G q = some (.tup [kV x.1, x.2]) → upd G D (.lst (ps.map V.ref ++ [.ref p])) q = some (.tup [kV x.1, x.2]) := fun q x h => by
    rw [upd_ne (fun z => by rw [z, h3] at h; cases h)]
    exact h
  refine ⟨_, h3, lt_line' (by rw [List.length_map]; omega), ps ++ [p], by rw [upd_same, List.map_append]; rfl, Paired.snoc (Paired.mono (fun q x h => tup q x (s2 _ _ h)) h2) (tup _ _ hp2), (s.trans s2).mut hD⟩
theorem mergeK_self {kvs : List (Key × V)} (nd : (kvs.map (·.1)).Nodup) : mergeK [] kvs = kvs := by
  have go : ∀ (more kvs : List (Key × V)), ((kvs ++ more).map (·.1)).Nodup → mergeK kvs more = kvs ++ more := by
    intro more
    induction more with
    | nil => intro kvs _; rw [List.append_nil]; rfl
    | cons p r ih =>
      intro kvs nd
      have out : valV kvs p.1 = none := by
        cases z : valV kvs p.1 with
        | none => rfl
        | some v =>
          unfold valV at z
          cases y : kvs.find? (fun kv => decide (kv.1 = p.1)) with
          | none => rw [y] at z; cases z
          | some q =>
            have h1 : q.1 = p.1 := by simpa using List.find?_some y
            have h2 := List.mem_of_find?_eq_some y
            rw [List.map_append, List.nodup_append] at nd
            exact absurd h1 (nd.2.2 _ (List.mem_map.mpr ⟨q, h2, rfl⟩) _ (List.mem_map.mpr ⟨p, List.mem_cons_self .., rfl⟩))
      show mergeK (putK kvs p.1 p.2) r = _
      rw [putK_new _ out, ih _ (by rw [List.append_assoc]; exact nd), List.append_assoc]
      rfl
  exact go kvs [] nd
theorem valV_mem {kvs : List (Key × V)} {k : Key} {v : V} (h : valV kvs k = some v) : (k, v) ∈ kvs := by
  unfold valV at h
  cases y : kvs.find? (fun kv => decide (kv.1 = k)) with
  | none => rw [y] at h; cases h
  | some q =>
    rw [y] at h
    have h1 : q.1 = k := by simpa using List.find?_some y
    have h2 := List.mem_of_find?_eq_some y
    cases h
    rw [← h1]
    exact h2
theorem valV_const {c : V} : ∀ {ys : List Str} {x : Str}, x ∈ ys → valV (ys.map fun y => ((Sum.inr y : Key), c)) (Sum.inr x) = some c
  | y :: r, x, h => by
    unfold valV
    rw [List.map_cons]
    by_cases e : y = x
    · rw [List.find?_cons_of_pos (by simp [e])]
      rfl
    · rw [List.find?_cons_of_neg (by simp [e])]
      exact valV_const (ys := r) ((List.mem_cons.mp h).resolve_left fun z => e z.symm)
/-- the dict is let go -/
theorem unlock {G H' : Hp} {d : Addr} {od : Obj} {u : HO} (h : G d = some u) (s : Same (upd G d (.frz od u)) H') : Same G (upd H' d u) := fun b o e => by
  by_cases c : b = d
  · rw [c, h] at e
    rw [c, upd_same, e]
  · rw [upd_ne c]
    exact s _ _ ((upd_ne c).trans e)
theorem unlock_pairs {G H' : Hp} {d D : Addr} {od : Obj} {u : HO} {ws : List (Key × V)} (g : PairsL (upd G d (.frz od u)) D ws H') (h : G d = some u) (hD : upd G d (.frz od u) D = none) : ∃ ps : List Addr, upd H' d u D = some (.lst (ps.map V.ref)) ∧ Paired (fun (p : Addr) (kv : Key × V) => upd H' d u p = some (.tup [kV kv.1, kv.2])) ps ws ∧ Same G (upd H' d u) := by
  obtain ⟨ps, h1, h2, s⟩ := g
  have hf := s d _ upd_same
  refine ⟨ps, ?_, Paired.mono (fun q x z => ?_) h2, unlock h s⟩
  · rw [upd_ne (fun z => by rw [z, hf] at h1; cases h1)]
    exact h1
  · rw [upd_ne (fun y => by rw [y, hf] at z; cases z)]
    exact z
theorem cut_tail {xs : List V} (h : 1 ≤ xs.length) : cutV xs (some (1 : Int)) none = xs.drop 1 := by
  have e1 : HT.sIx xs.length 0 (some (1 : Int)) = 1 := by
    unfold HT.sIx
    simp
    omega
  have e2 : HT.sIx xs.length xs.length none = xs.length := rfl
  unfold cutV
  rw [e1, e2, List.take_of_length_le (by rw [List.length_drop]; omega)]
theorem paired_drop {α β : Type} {F : α → β → Prop} : ∀ {l : List α} {m : List β} (n : Nat), Paired F l m → Paired F (l.drop n) (m.drop n)
  | _, _, 0, h => h
  | _, _, _ + 1, .nil => .nil
  | _, _, n + 1, .cons _ t => paired_drop n t

/-! ### comprehensions over a dict that is locked meanwhile -/
theorem lc_keys {d : Addr} {o : Obj} {kvs : List (Key × V)} {g : TG} {tt : TT} {te : TE} {vs : List Nat} {σ : L2.St} {H1 : Hp} {D : Addr} {Qd : Hp → Prop} (Pv : Nat → Hp → Prop) (h0 : Pv 0 (upd H1 D (.lst []))) (hl : ∀ i H, i ≤ kvs.length → Pv i H → H d = some (.frz o (.dK kvs)))
    (hs : ∀ i k v H, kvs[i]? = some (k, v) → Pv i H → g (kV k) (wipe σ vs) H fun σ2 H2 => wipe σ2 vs = wipe σ vs ∧ tt σ2 H2 fun b H3 =>
      if b = true then te σ2 H3 fun y H4 => ∃ acc, H4 D = some (.lst acc) ∧ acc.length < sizeLine ∧ Pv (i + 1) (upd H4 D (.lst (acc ++ [y]))) else Pv (i + 1) H3) (hd : ∀ H, Pv kvs.length H → Qd H) :
    ∃ W : Nat → Nat → Hp → Prop, (∃ m, W 0 m (upd H1 D (.lst []))) ∧ ∀ i m H, W i m H →
      ((Itk d o kvs).stop i H ∧ Qd H) ∨ ((Itk d o kvs).go i H ∧ ∃ Nx : Hp → Prop, (∀ H', Nx H' → ∃ m', m' < m ∧ W (i + 1) m' H') ∧ ∀ v H', (Itk d o kvs).yld i H v H' → g v (wipe σ vs) H' fun σ2 H2 => wipe σ2 vs = wipe σ vs ∧ tt σ2 H2 fun b H3 =>
        if b = true then te σ2 H3 fun y H4 => ∃ acc, H4 D = some (.lst acc) ∧ acc.length < sizeLine ∧ Nx (upd H4 D (.lst (acc ++ [y]))) else Nx H3) := by
  refine ⟨fun i m H => m = kvs.length - i ∧ i ≤ kvs.length ∧ Pv i H, ⟨kvs.length, by simp, Nat.zero_le _, h0⟩, ?_⟩
  rintro i m H ⟨rfl, hi, p⟩
  by_cases hlt : i < kvs.length
  · refine .inr ⟨⟨hl i H hi p, hlt⟩, Pv (i + 1), fun H' p' => ⟨kvs.length - (i + 1), by omega, rfl, hlt, p'⟩, fun x H' y => ?_⟩
    obtain ⟨e, k, v, ek, rfl⟩ := y
    subst e
    exact hs i k v _ ek p
  · have e : i = kvs.length := by omega
    exact .inl ⟨⟨hl i H hi p, by omega⟩, hd H (by rw [e] at p; exact p)⟩
theorem lc_vals {d : Addr} {o : Obj} {kvs : List (Key × V)} {g : TG} {tt : TT} {te : TE} {vs : List Nat} {σ : L2.St} {H1 : Hp} {D : Addr} {Qd : Hp → Prop} (Pv : Nat → Hp → Prop) (h0 : Pv 0 (upd H1 D (.lst []))) (hl : ∀ i H, i ≤ kvs.length → Pv i H → H d = some (.frz o (.dK kvs)))
    (hs : ∀ i k v H, kvs[i]? = some (k, v) → Pv i H → g (v) (wipe σ vs) H fun σ2 H2 => wipe σ2 vs = wipe σ vs ∧ tt σ2 H2 fun b H3 =>
      if b = true then te σ2 H3 fun y H4 => ∃ acc, H4 D = some (.lst acc) ∧ acc.length < sizeLine ∧ Pv (i + 1) (upd H4 D (.lst (acc ++ [y]))) else Pv (i + 1) H3) (hd : ∀ H, Pv kvs.length H → Qd H) :
    ∃ W : Nat → Nat → Hp → Prop, (∃ m, W 0 m (upd H1 D (.lst []))) ∧ ∀ i m H, W i m H →
      ((Itd d o kvs).stop i H ∧ Qd H) ∨ ((Itd d o kvs).go i H ∧ ∃ Nx : Hp → Prop, (∀ H', Nx H' → ∃ m', m' < m ∧ W (i + 1) m' H') ∧ ∀ v H', (Itd d o kvs).yld i H v H' → g v (wipe σ vs) H' fun σ2 H2 => wipe σ2 vs = wipe σ vs ∧ tt σ2 H2 fun b H3 =>
        if b = true then te σ2 H3 fun y H4 => ∃ acc, H4 D = some (.lst acc) ∧ acc.length < sizeLine ∧ Nx (upd H4 D (.lst (acc ++ [y]))) else Nx H3) := by
  refine ⟨fun i m H => m = kvs.length - i ∧ i ≤ kvs.length ∧ Pv i H, ⟨kvs.length, by simp, Nat.zero_le _, h0⟩, ?_⟩
  rintro i m H ⟨rfl, hi, p⟩
  by_cases hlt : i < kvs.length
  · refine .inr ⟨⟨hl i H hi p, hlt⟩, Pv (i + 1), fun H' p' => ⟨kvs.length - (i + 1), by omega, rfl, hlt, p'⟩, fun x H' y => ?_⟩
    obtain ⟨e, k, ek⟩ := y
    subst e
    exact hs i k x _ ek p
  · have e : i = kvs.length := by omega
    exact .inl ⟨⟨hl i H hi p, by omega⟩, hd H (by rw [e] at p; exact p)⟩


end My
namespace My
open PySem PySem.Spec PyProof.Rows L2 TL
def topS (i : Nat) : Stmt := PySem.Challenge.pw_fromparts_k07_errors_of_kinds.main.body.getD i (.Pass ⟨0, 0, 0, 0⟩)
abbrev s__wall : Stmt := topS 0
theorem sc__wall : FnScope ["k"] ["k"] (defScope s__wall) := ⟨rfl, rfl, rfl, by decide +kernel, rfl, by decide +kernel, by decide +kernel⟩
abbrev s_is_integer : Stmt := topS 3
theorem sc_is_integer : FnScope ["value"] ["value"] (defScope s_is_integer) := ⟨rfl, rfl, rfl, by decide +kernel, rfl, by decide +kernel, by decide +kernel⟩
abbrev s_is_word : Stmt := topS 4
theorem sc_is_word : FnScope ["value", "letter"] ["value"] (defScope s_is_word) := ⟨rfl, rfl, rfl, by decide +kernel, rfl, by decide +kernel, by decide +kernel⟩
abbrev s__kept : Stmt := topS 6
theorem sc__kept : FnScope ["value", "one", "name"] ["value"] (defScope s__kept) := ⟨rfl, rfl, rfl, by decide +kernel, rfl, by decide +kernel, by decide +kernel⟩
abbrev s_ParseError___init__ : Stmt := inClass (topS 11) 0
theorem sc_ParseError___init__ : FnScope ["self", "line"] ["self", "line"] (defScope s_ParseError___init__) := ⟨rfl, rfl, rfl, by decide +kernel, rfl, by decide +kernel, by decide +kernel⟩
abbrev s_InvalidNumber___init__ : Stmt := inClass (topS 12) 0
theorem sc_InvalidNumber___init__ : FnScope ["self", "number"] ["self", "number"] (defScope s_InvalidNumber___init__) := ⟨rfl, rfl, rfl, by decide +kernel, rfl, by decide +kernel, by decide +kernel⟩
abbrev s_Type___init__ : Stmt := inClass (topS 17) 0
theorem sc_Type___init__ : FnScope ["self", "inputs", "atom", "places", "order", "one", "word"] ["self", "inputs", "atom"] (defScope s_Type___init__) := ⟨rfl, rfl, rfl, by decide +kernel, rfl, by decide +kernel, by decide +kernel⟩
abbrev s_Type_read : Stmt := inClass (topS 17) 1
theorem sc_Type_read : FnScope ["cls", "text", "found"] ["cls", "text"] (defScope s_Type_read) := ⟨rfl, rfl, rfl, by decide +kernel, rfl, by decide +kernel, by decide +kernel⟩
abbrev s_Type_plain : Stmt := inClass (topS 17) 2
theorem sc_Type_plain : FnScope ["cls", "atom"] ["cls", "atom"] (defScope s_Type_plain) := ⟨rfl, rfl, rfl, by decide +kernel, rfl, by decide +kernel, by decide +kernel⟩
abbrev s_Type_inputs : Stmt := inClass (topS 17) 3
theorem sc_Type_inputs : FnScope ["self"] ["self"] (defScope s_Type_inputs) := ⟨rfl, rfl, rfl, by decide +kernel, rfl, by decide +kernel, by decide +kernel⟩
abbrev s_Type_atom : Stmt := inClass (topS 17) 4
theorem sc_Type_atom : FnScope ["self"] ["self"] (defScope s_Type_atom) := ⟨rfl, rfl, rfl, by decide +kernel, rfl, by decide +kernel, by decide +kernel⟩
abbrev s_Type_text : Stmt := inClass (topS 17) 5
theorem sc_Type_text : FnScope ["self"] ["self"] (defScope s_Type_text) := ⟨rfl, rfl, rfl, by decide +kernel, rfl, by decide +kernel, by decide +kernel⟩
abbrev s_Type_order : Stmt := inClass (topS 17) 6
theorem sc_Type_order : FnScope ["self"] ["self"] (defScope s_Type_order) := ⟨rfl, rfl, rfl, by decide +kernel, rfl, by decide +kernel, by decide +kernel⟩
abbrev s_Type_atoms : Stmt := inClass (topS 17) 7
theorem sc_Type_atoms : FnScope ["self"] ["self"] (defScope s_Type_atoms) := ⟨rfl, rfl, rfl, by decide +kernel, rfl, by decide +kernel, by decide +kernel⟩
abbrev s_Type_parts : Stmt := inClass (topS 17) 8
theorem sc_Type_parts : FnScope ["self", "inner", "by_text", "one", "part", "text"] ["self"] (defScope s_Type_parts) := ⟨rfl, rfl, rfl, by decide +kernel, rfl, by decide +kernel, by decide +kernel⟩
abbrev s_Type_positive : Stmt := inClass (topS 17) 9
theorem sc_Type_positive : FnScope ["self"] ["self"] (defScope s_Type_positive) := ⟨rfl, rfl, rfl, by decide +kernel, rfl, by decide +kernel, by decide +kernel⟩
abbrev s_Type_negative : Stmt := inClass (topS 17) 10
theorem sc_Type_negative : FnScope ["self"] ["self"] (defScope s_Type_negative) := ⟨rfl, rfl, rfl, by decide +kernel, rfl, by decide +kernel, by decide +kernel⟩
abbrev s_Type___rshift__ : Stmt := inClass (topS 17) 11
theorem sc_Type___rshift__ : FnScope ["self", "other"] ["self", "other"] (defScope s_Type___rshift__) := ⟨rfl, rfl, rfl, by decide +kernel, rfl, by decide +kernel, by decide +kernel⟩
abbrev s_Type___rrshift__ : Stmt := inClass (topS 17) 12
theorem sc_Type___rrshift__ : FnScope ["self", "other"] ["self", "other"] (defScope s_Type___rrshift__) := ⟨rfl, rfl, rfl, by decide +kernel, rfl, by decide +kernel, by decide +kernel⟩
abbrev s_Type___mod__ : Stmt := inClass (topS 17) 13
theorem sc_Type___mod__ : FnScope ["self", "other"] ["self", "other"] (defScope s_Type___mod__) := ⟨rfl, rfl, rfl, by decide +kernel, rfl, by decide +kernel, by decide +kernel⟩
abbrev s_Type___rmod__ : Stmt := inClass (topS 17) 14
theorem sc_Type___rmod__ : FnScope ["self", "other"] ["self", "other"] (defScope s_Type___rmod__) := ⟨rfl, rfl, rfl, by decide +kernel, rfl, by decide +kernel, by decide +kernel⟩
abbrev s_Type_renamed : Stmt := inClass (topS 17) 15
theorem sc_Type_renamed : FnScope ["self", "names", "inputs", "one", "word"] ["self", "names"] (defScope s_Type_renamed) := ⟨rfl, rfl, rfl, by decide +kernel, rfl, by decide +kernel, by decide +kernel⟩
abbrev s_Type_put : Stmt := inClass (topS 17) 16
theorem sc_Type_put : FnScope ["self", "atom", "other", "inputs", "one"] ["self", "atom", "other"] (defScope s_Type_put) := ⟨rfl, rfl, rfl, by decide +kernel, rfl, by decide +kernel, by decide +kernel⟩
abbrev s_Type___len__ : Stmt := inClass (topS 17) 17
theorem sc_Type___len__ : FnScope ["self"] ["self"] (defScope s_Type___len__) := ⟨rfl, rfl, rfl, by decide +kernel, rfl, by decide +kernel, by decide +kernel⟩
abbrev s_Type___getitem__ : Stmt := inClass (topS 17) 18
theorem sc_Type___getitem__ : FnScope ["self", "at"] ["self", "at"] (defScope s_Type___getitem__) := ⟨rfl, rfl, rfl, by decide +kernel, rfl, by decide +kernel, by decide +kernel⟩
abbrev s_Type___iter__ : Stmt := inClass (topS 17) 19
theorem sc_Type___iter__ : FnScope ["self"] ["self"] (defScope s_Type___iter__) := ⟨rfl, rfl, rfl, by decide +kernel, rfl, by decide +kernel, by decide +kernel⟩
abbrev s_Type___contains__ : Stmt := inClass (topS 17) 20
theorem sc_Type___contains__ : FnScope ["self", "x", "part"] ["self", "x"] (defScope s_Type___contains__) := ⟨rfl, rfl, rfl, by decide +kernel, rfl, by decide +kernel, by decide +kernel⟩
abbrev s_Type___eq__ : Stmt := inClass (topS 17) 21
theorem sc_Type___eq__ : FnScope ["self", "other"] ["self", "other"] (defScope s_Type___eq__) := ⟨rfl, rfl, rfl, by decide +kernel, rfl, by decide +kernel, by decide +kernel⟩
abbrev s_Type___str__ : Stmt := inClass (topS 17) 22
theorem sc_Type___str__ : FnScope ["self"] ["self"] (defScope s_Type___str__) := ⟨rfl, rfl, rfl, by decide +kernel, rfl, by decide +kernel, by decide +kernel⟩
abbrev s__is_tuple_of_types : Stmt := topS 18
theorem sc__is_tuple_of_types : FnScope ["value", "one"] ["value"] (defScope s__is_tuple_of_types) := ⟨rfl, rfl, rfl, by decide +kernel, rfl, by decide +kernel, by decide +kernel⟩
abbrev s__is_renaming : Stmt := topS 19
theorem sc__is_renaming : FnScope ["names", "atoms", "word"] ["names", "atoms"] (defScope s__is_renaming) := ⟨rfl, rfl, rfl, by decide +kernel, rfl, by decide +kernel, by decide +kernel⟩
abbrev s__text_inside : Stmt := topS 20
theorem sc__text_inside : FnScope ["wanted"] ["wanted"] (defScope s__text_inside) := ⟨rfl, rfl, rfl, by decide +kernel, rfl, by decide +kernel, by decide +kernel⟩
abbrev s__read_freely : Stmt := topS 21
theorem sc__read_freely : FnScope ["text", "depth", "pieces", "inputs", "piece"] ["text", "depth"] (defScope s__read_freely) := ⟨rfl, rfl, rfl, by decide +kernel, rfl, by decide +kernel, by decide +kernel⟩
abbrev s__read_piece : Stmt := topS 22
theorem sc__read_piece : FnScope ["piece", "depth"] ["piece", "depth"] (defScope s__read_piece) := ⟨rfl, rfl, rfl, by decide +kernel, rfl, by decide +kernel, by decide +kernel⟩
abbrev s__pieces : Stmt := topS 23
theorem sc__pieces : FnScope ["text", "pieces", "begun", "depth", "piece"] ["text"] (defScope s__pieces) := ⟨rfl, rfl, rfl, by decide +kernel, rfl, by decide +kernel, by decide +kernel⟩
abbrev s__law_dice : Stmt := topS 25
theorem sc__law_dice : FnScope ["_law_script", "_law_spot", "_law_cell", "_law_great", "_law_blend"] ["_law_script", "_law_spot"] (defScope s__law_dice) := ⟨rfl, rfl, rfl, by decide +kernel, rfl, by decide +kernel, by decide +kernel⟩
abbrev s__law_roll : Stmt := topS 26
theorem sc__law_roll : FnScope ["_law_dice_here", "_law_total", "_law_found", "_law_one", "_law_two"] ["_law_dice_here", "_law_total"] (defScope s__law_roll) := ⟨rfl, rfl, rfl, by decide +kernel, rfl, by decide +kernel, by decide +kernel⟩
abbrev s__law_pick : Stmt := topS 27
theorem sc__law_pick : FnScope ["_law_dice_here", "_law_items"] ["_law_dice_here", "_law_items"] (defScope s__law_pick) := ⟨rfl, rfl, rfl, by decide +kernel, rfl, by decide +kernel, by decide +kernel⟩
abbrev s__law_text : Stmt := topS 28
theorem sc__law_text : FnScope ["_law_kind_here", "_law_rows", "_law_one"] ["_law_kind_here"] (defScope s__law_text) := ⟨rfl, rfl, rfl, by decide +kernel, rfl, by decide +kernel, by decide +kernel⟩
abbrev s__law_atoms_of : Stmt := topS 29
theorem sc__law_atoms_of : FnScope ["_law_kind_here", "_law_found", "_law_one"] ["_law_kind_here"] (defScope s__law_atoms_of) := ⟨rfl, rfl, rfl, by decide +kernel, rfl, by decide +kernel, by decide +kernel⟩
abbrev s__law_kind : Stmt := topS 30
theorem sc__law_kind : FnScope ["_law_dice_here", "_law_atoms", "_law_order", "_law_most", "_law_inputs", "_law_left", "_law_turn", "_law_size", "_law_one"] ["_law_dice_here", "_law_atoms", "_law_order", "_law_most"] (defScope s__law_kind) := ⟨rfl, rfl, rfl, by decide +kernel, rfl, by decide +kernel, by decide +kernel⟩
abbrev s__law_made_kind : Stmt := topS 31
theorem sc__law_made_kind : FnScope ["_law_kind_here", "_law_one"] ["_law_kind_here"] (defScope s__law_made_kind) := ⟨rfl, rfl, rfl, by decide +kernel, rfl, by decide +kernel, by decide +kernel⟩
abbrev s__law_refusal : Stmt := topS 32
theorem sc__law_refusal : FnScope ["_law_call", "error"] ["_law_call"] (defScope s__law_refusal) := ⟨rfl, rfl, rfl, by decide +kernel, rfl, by decide +kernel, by decide +kernel⟩
abbrev s__law_made_wrongly : Stmt := topS 33
theorem sc__law_made_wrongly : FnScope ["_law_dice_here", "_law_made", "_law_bad", "_law_odd", "_law_text_here", "_law_told"] ["_law_dice_here", "_law_made"] (defScope s__law_made_wrongly) := ⟨rfl, rfl, rfl, by decide +kernel, rfl, by decide +kernel, by decide +kernel⟩
abbrev s__law_asked_wrongly : Stmt := topS 34
theorem sc__law_asked_wrongly : FnScope ["_law_dice_here", "_law_made", "_law_many", "_law_index", "_law_none", "_law_count", "_law_names", "_law_wrong", "_law_told", "_law_word"] ["_law_dice_here", "_law_made"] (defScope s__law_asked_wrongly) := ⟨rfl, rfl, rfl, by decide +kernel, rfl, by decide +kernel, by decide +kernel⟩
abbrev s_law : Stmt := topS 35
theorem sc_law : FnScope ["_law_script", "_law_spot", "_law_dice_here", "_law_kind_here", "_law_made", "_law_turn", "_law_wide", "_law_deep", "_law_told"] ["_law_script"] (defScope s_law) := ⟨rfl, rfl, rfl, by decide +kernel, rfl, by decide +kernel, by decide +kernel⟩
structure XType (K : PySem.W.Frag) (C : Addr) : Prop where
  n_inputs : PySem.W.findIn K (.ref C) "_inputs" = some none
  n_atom : PySem.W.findIn K (.ref C) "_atom" = some none
  n_places : PySem.W.findIn K (.ref C) "_places" = some none
  n_order : PySem.W.findIn K (.ref C) "_order" = some none
  n_text : PySem.W.findIn K (.ref C) "_text" = some none
  first : PySem.W.selfFirst K C = true
  nfirst : PySem.W.notFirst K C (.ref C) = true
  ni_str : PySem.W.kitOne K (.ref C) (.type "str") = some false
  odd_NoneType : PySem.W.kitOne K (.type "NoneType") (.ref C) = some false
  nf_NoneType : PySem.W.notFirst K C (.type "NoneType") = true
  odd_int : PySem.W.kitOne K (.type "int") (.ref C) = some false
  nf_int : PySem.W.notFirst K C (.type "int") = true
  odd_str : PySem.W.kitOne K (.type "str") (.ref C) = some false
  nf_str : PySem.W.notFirst K C (.type "str") = true
  odd_tuple : PySem.W.kitOne K (.type "tuple") (.ref C) = some false
  nf_tuple : PySem.W.notFirst K C (.type "tuple") = true
  odd_list : PySem.W.kitOne K (.type "list") (.ref C) = some false
  nf_list : PySem.W.notFirst K C (.type "list") = true
  odd_dict : PySem.W.kitOne K (.type "dict") (.ref C) = some false
  nf_dict : PySem.W.notFirst K C (.type "dict") = true
  ne : PySem.W.findIn K (.ref C) "__ne__" = some (some (.builtin "object.__ne__"))
  under : PySem.W.subIn K (.ref C) (.type "object") = some true
  cl1 : PySem.W.findIn K (.ref C) "__class__" = some (some (.builtin "object.__class__"))
  cl2 : PySem.W.specialIn K (.builtin "object.__class__") "__get__" = some (some (.builtin "getset_descriptor.__get__"))
  cl3 : PySem.W.takesIn K (.builtin "object.__class__") = some true
  cl4 : PySem.W.mroIn K C (.type "object") = some true
structure Txt (K : PySem.W.Frag) (mg : Str → Option Value) (C_Type : Addr) : Prop where
  c_Type : mg "Type" = some (.ref C_Type)
  k_Type : Cls K C_Type
  x_Type : XType K C_Type
  b_RuntimeError : mg "RuntimeError" = none
  b_ValueError : mg "ValueError" = none
  b_abs : mg "abs" = none
  b_all : mg "all" = none
  b_bool : mg "bool" = none
  b_classmethod : mg "classmethod" = none
  b_dict : mg "dict" = none
  b_int : mg "int" = none
  b_isinstance : mg "isinstance" = none
  b_iter : mg "iter" = none
  b_len : mg "len" = none
  b_list : mg "list" = none
  b_max : mg "max" = none
  b_min : mg "min" = none
  b_property : mg "property" = none
  b_range : mg "range" = none
  b_repr : mg "repr" = none
  b_set : mg "set" = none
  b_sorted : mg "sorted" = none
  b_str : mg "str" = none
  b_tuple : mg "tuple" = none
  g_MAX_LETTERS : ∃ u, mg "MAX_LETTERS" = some u ∧ RelV (.int 8) u
  g_MAX_PLACES : ∃ u, mg "MAX_PLACES" = some u ∧ RelV (.int 15) u
  g_MAX_ORDER : ∃ u, mg "MAX_ORDER" = some u ∧ RelV (.int 4) u
  g__ARROW : ∃ u, mg "_ARROW" = some u ∧ RelV (.str " -> ") u
set_option pp.maxSteps 3000
set_option pp.deepTerms false
def isLow (c : Nat) : Bool := decide (97 ≤ c) && decide (c ≤ 122)
def isW : V → Bool
  | .str x => (decide (1 ≤ x.length) && decide (x.length ≤ 8)) && x.cps.toList.all isLow
  | _ => false
/-- a value that the law makes -/
def ValW (K : PySem.W.Frag) (H : Hp) (v : V) : Prop := (∃ x : Str, v = .str x ∧ x.length ≤ 1000 ∧ ∀ c ∈ x.cps.toList, c < 128) ∨
  (∃ t, TyX K H v t ∧ PySem.W.kitOne K t (.type "str") = some false ∧ isW v = false)
def sp_is_word (K : PySem.W.Frag) : Sp := fun vs H Q _ => ∃ v, vs = [v] ∧ ValW K H v ∧ ∀ H', Same H H' → Q (.bl (isW v)) H'
theorem isW_str (x : Str) : isW (.str x) = ((decide (1 ≤ x.length) && decide (x.length ≤ 8)) && x.cps.toList.all isLow) := rfl
section
variable {P : Program} {w : World} {K : PySem.W.Frag} {mg : Str → Option Value} {base : Heap}
theorem ok_is_word (T : Txt K mg C_Type) {f : Addr} {fd : FuncData} (F : Fun K "is_word" "is_word" s_is_word f fd) : FnOk P w K mg base CX0 1 f fd ["value"] (sp_is_word K) := by
  have nd := sc_is_word.nd
  refine F.ok sc_is_word (fun vs H Q E h => ?_) (fun cdv A outer s H vs Q E hr h => ?_)
  · obtain ⟨v, rfl, _⟩ := h
    rfl
  · obtain ⟨v, rfl, hv, q⟩ := h
    refine ⟨_, (pss_cons (ps_if (PW.pt (pw_or (pt_not (pt_val (pe_callB call_isi (by rfl) T.b_isinstance (by decide +kernel) (pa_cons (pv 0) (pa_cons (pe_bltn (v := .ty "str") (u := .type "str") (by rfl) T.b_str (by decide +kernel) rfl) pa_nil))))) (pw_or1 (pt_not (pt_chain op_le op_le pe_int (pe_callB call_len (by rfl) T.b_len (by decide +kernel) (pa_cons (pv 0) pa_nil)) (pe_globE rfl T.g_MAX_LETTERS)))))) (pss_one (ps_ret pe_bl)) pss_nil)
      (pss_one (ps_ret (pe_callB (cr_all rfl) (by rfl) T.b_all (by decide +kernel) (pa_cons (pe_lcD (own := [("letter", 1)]) (by rfl) nd (pi_str (pv 0)) (blkOk_by (own := [("letter", 1)]) (N := ["value", "letter"]) (sc := (defScope s_is_word)) (by decide +kernel)) (fun _ _ _ _ _ => pg_name (i := 1) nd rfl (Or.inl rfl)) (fun _ _ _ _ _ => pts_nil) (fun _ _ _ _ _ => (pe_chain op_le_str op_le_str pe_str (pv 1) pe_str))) pa_nil))))), ?_⟩
    rcases hv with ⟨x, rfl, hx, ha⟩ | ⟨t, ht, hk, hw⟩
    · have hx1 : x.length ≤ sizeLine := lt_line (by omega)
      have hxl : x.cps.toList.length = x.length := (len_tl x).symm
      refine ⟨.str x, rfl, .str x, .ty "str", .type "str", .type "str", true, rfl, .ty _, .base (.str x), kit_ty (by decide +kernel), true, rfl, ?_⟩
      refine iteF ?_
      refine ⟨.str x, rfl, .str x, x.length, rfl, ⟨hx1, rfl⟩, 1, (x.length : Int), rfl, rfl, _, rfl, ?_⟩
      refine ite2 (fun h1 => ?_) (fun h1 => ?_)
      · have h1' : 1 ≤ x.length := by have := of_decide_eq_true h1; omega
        refine ⟨(x.length : Int), 8, rfl, rfl, _, rfl, ?_⟩
        refine ite2 (fun h2 => ?_) (fun h2 => ?_)
        · have h2' : ¬ x.length ≤ 8 := fun z => by
            rw [decide_eq_true (show (x.length : Int) ≤ 8 by omega)] at h2
            cases h2
          have e : isW (.str x) = false := by rw [isW_str, decide_eq_false h2', Bool.and_false, Bool.false_and]
          have z := q H (Same.refl H)
          rw [e] at z
          exact z
        · have h2' : x.length ≤ 8 := by
            by_cases z : (x.length : Int) ≤ 8
            · omega
            · rw [decide_eq_false z] at h2
              exact absurd rfl h2
          refine ⟨.str x, rfl, x, rfl, fun D hD => lc_txt (fun i H' => H' D = some (.lst (((x.cps.toList.take i).map isLow).map V.bl)) ∧ Same H H') ?_ (fun i c H1 hc hP => ?_) (fun H1 hP => ?_)⟩
          · exact ⟨upd_same, (Same.refl H).mut hD⟩
          · obtain ⟨hD1, s1⟩ := hP
            refine ⟨rfl, tyes ?_⟩
            have fin : ∀ b, b = isLow c → ∃ acc, H1 D = some (.lst acc) ∧ acc.length < sizeLine ∧ ((upd H1 D (.lst (acc ++ [.bl b]))) D = some (.lst (((x.cps.toList.take (i + 1)).map isLow).map V.bl)) ∧ Same H (upd H1 D (.lst (acc ++ [.bl b])))) := by
              intro b e
              refine ⟨_, hD1, lt_line' ?_, ?_, s1.mut hD⟩
              · have := lt_of_get hc
                rw [List.length_map, List.length_map, List.length_take]
                omega
              · rw [upd_same, e, take_next hc, List.map_append, List.map_append]
                rfl
            refine ⟨.str ⟨#[c]⟩, rfl, "a", ⟨#[c]⟩, rfl, rfl, _, rfl, ?_⟩
            have ea : (decide ((⟨#[c]⟩ : Str).cps.toList < ("a" : Str).cps.toList)) = decide (c < 97) := lex1 c 97
            have ez : (decide (("z" : Str).cps.toList < (⟨#[c]⟩ : Str).cps.toList)) = decide (122 < c) := lex1 122 c
            refine ite2 (fun h3 => ?_) (fun h3 => ?_)
            · refine ⟨⟨#[c]⟩, "z", rfl, rfl, fin _ ?_⟩
              rw [ea] at h3
              rw [ez]
              unfold isLow
              by_cases z : c < 97
              · rw [decide_eq_true z] at h3
                cases h3
              · rw [decide_eq_true (show 97 ≤ c by omega), Bool.true_and]
                by_cases z2 : 122 < c
                · rw [decide_eq_true z2, decide_eq_false (by omega)]
                  rfl
                · rw [decide_eq_false z2, decide_eq_true (by omega)]
                  rfl
            · refine fin _ ?_
              rw [ea] at h3
              unfold isLow
              by_cases z : c < 97
              · rw [decide_eq_false (show ¬ 97 ≤ c by omega), Bool.false_and]
              · rw [decide_eq_false z] at h3
                exact absurd rfl h3
          · obtain ⟨hD1, s1⟩ := hP
            rw [List.take_length] at hD1
            refine ⟨D, _, rfl, SqL.of hD1, ?_⟩
            have e : isW (.str x) = (x.cps.toList.map isLow).all id := by
              rw [isW_str, decide_eq_true h1', decide_eq_true h2', List.all_map]
              rfl
            have z := q H1 s1
            rw [e] at z
            exact z
      · have h1' : ¬ 1 ≤ x.length := fun z => h1 (decide_eq_true (by omega))
        refine ⟨false, rfl, iteT ?_⟩
        have e : isW (.str x) = false := by rw [isW_str, decide_eq_false h1', Bool.false_and, Bool.false_and]
        have z := q H (Same.refl H)
        rw [e] at z
        exact z
    · refine ⟨v, rfl, v, .ty "str", t, .type "str", false, rfl, .ty _, ht, hk, false, rfl, ?_⟩
      refine iteT ?_
      refine iteT ?_
      have z := q H (Same.refl H)
      rw [hw] at z
      exact z
end

/-! ### types, plainly -/
inductive Ty where
  | mk (ins : List Ty) (atom : Str) : Ty
namespace Ty
def ins : Ty → List Ty
  | .mk i _ => i
def atom : Ty → Str
  | .mk _ a => a
mutual
def places : Ty → List Str
  | .mk i a => placesL i ++ [a]
def placesL : List Ty → List Str
  | [] => []
  | t :: r => places t ++ placesL r
end
mutual
def order : Ty → Nat
  | .mk i _ => orderL i
def orderL : List Ty → Nat
  | [] => 0
  | t :: r => max (order t + 1) (orderL r)
end
mutual
def text : Ty → Str
  | .mk i a => Txt.join " -> " (insideL i ++ [a])
/-- the texts of the arguments as they stand in the text -/
def insideL : List Ty → List Str
  | [] => []
  | t :: r => (if t.ins.isEmpty then text t else ("(" : Str) ++ text t ++ (")" : Str)) :: insideL r
end
def inside (t : Ty) : Str := if t.ins.isEmpty then text t else ("(" : Str) ++ text t ++ (")" : Str)
theorem insideL_map : ∀ l : List Ty, insideL l = l.map inside
  | [] => by rw [insideL]; rfl
  | t :: r => by rw [insideL, insideL_map r]; rfl
theorem placesL_cons (t : Ty) (r : List Ty) : placesL (t :: r) = places t ++ placesL r := by rw [placesL]
theorem placesL_nil : placesL [] = [] := by rw [placesL]
theorem placesL_append : ∀ l m : List Ty, placesL (l ++ m) = placesL l ++ placesL m
  | [], m => by rw [placesL_nil]; rfl
  | t :: r, m => by rw [List.cons_append, placesL_cons, placesL_cons, placesL_append r m, List.append_assoc]
/-- every atom is a word -/
def words (t : Ty) : Prop := ∀ a ∈ t.places, isW (.str a) = true ∧ ∀ c ∈ a.cps.toList, c < 128
/-- small enough to be made -/
structure Fits (t : Ty) : Prop where
  words : t.words
  few : t.places.length ≤ 15
  low : t.order ≤ 4
end Ty

/-! ### how long texts are -/
theorem isW_len {a : Str} (h : isW (.str a) = true) : 1 ≤ a.length ∧ a.length ≤ 8 := by
  rw [isW_str] at h
  simp only [Bool.and_eq_true, decide_eq_true_eq] at h
  exact h.1
theorem join_len (sep : Str) (ys : List Str) : (Txt.join sep ys).length = (ys.map (·.length)).sum + (ys.length - 1) * sep.length := PySem.size_glued sep ys
theorem app_len (x y : Str) : (x ++ y).length = x.length + y.length := by
  rw [len_tl, tl_append, List.length_append, ← len_tl, ← len_tl]
namespace Ty
theorem places_pos (t : Ty) : 1 ≤ t.places.length := by
  cases t with
  | mk i a =>
    rw [places, List.length_append]
    exact Nat.le_add_left 1 _
theorem len_placesL : ∀ l : List Ty, l.length ≤ (placesL l).length
  | [] => Nat.zero_le _
  | t :: r => by
    rw [placesL_cons, List.length_append, List.length_cons]
    have := places_pos t
    have := len_placesL r
    omega
theorem inside_len (t : Ty) : t.inside.length ≤ t.text.length + 2 := by
  unfold inside
  by_cases h : t.ins.isEmpty = true
  · rw [if_pos h]
    omega
  · rw [if_neg h, app_len, app_len]
    have h1 : ("(" : Str).length = 1 := by decide +kernel
    have h2 : (")" : Str).length = 1 := by decide +kernel
    omega
mutual
theorem text_len : ∀ t : Ty, (∀ a ∈ t.places, a.length ≤ 8) → t.text.length + 6 ≤ 14 * t.places.length
  | .mk i a, h => by
    have ha : a.length ≤ 8 := h a (by rw [places]; exact List.mem_append_right _ (List.mem_singleton.mpr rfl))
    have hi := insideL_len i fun b hb => h b (by rw [places]; exact List.mem_append_left _ hb)
    have sep : (" -> " : Str).length = 4 := by decide +kernel
    have n : (insideL i).length = i.length := by rw [insideL_map, List.length_map]
    rw [text, places, join_len, List.map_append, List.sum_append, List.length_append, List.length_append, sep, n]
    show _ + [a.length].sum + (i.length + 1 - 1) * 4 + 6 ≤ 14 * (_ + 1)
    rw [show [a.length].sum = a.length from Nat.add_zero _]
    omega
theorem insideL_len : ∀ l : List Ty, (∀ a ∈ placesL l, a.length ≤ 8) → ((insideL l).map (·.length)).sum + 4 * l.length ≤ 14 * (placesL l).length
  | [], _ => by
    rw [insideL]
    exact Nat.zero_le _
  | t :: r, h => by
    have h1 := text_len t fun a ha => h a (by rw [placesL_cons]; exact List.mem_append_left _ ha)
    have h2 := insideL_len r fun a ha => h a (by rw [placesL_cons]; exact List.mem_append_right _ ha)
    have h3 := inside_len t
    rw [insideL_map, List.map_cons, ← insideL_map, List.map_cons, List.sum_cons, List.length_cons, placesL_cons, List.length_append]
    omega
end
theorem text_small {t : Ty} (w : t.words) (n : t.places.length ≤ 15) : t.text.length ≤ 300 := by
  have := text_len t fun a ha => (isW_len (w a ha).1).2
  omega
theorem orderL_max : ∀ (l : List Ty) (m : Int), (l.map (fun t => ((t.order : Nat) : Int) + 1) = [] → m = 0) → (l.map (fun t => ((t.order : Nat) : Int) + 1) ≠ [] → m ∈ l.map (fun t => ((t.order : Nat) : Int) + 1) ∧ ∀ y ∈ l.map (fun t => ((t.order : Nat) : Int) + 1), y ≤ m) → m = ((orderL l : Nat) : Int) := by
  have up : ∀ l : List Ty, (∀ t ∈ l, t.order + 1 ≤ orderL l) ∧ (l ≠ [] → ∃ t ∈ l, orderL l = t.order + 1) := by
    intro l
    induction l with
    | nil => exact ⟨fun t h => (by cases h), fun h => absurd rfl h⟩
    | cons t r ih =>
      rw [orderL]
      refine ⟨fun u hu => ?_, fun _ => ?_⟩
      · rcases List.mem_cons.mp hu with rfl | hu
        · exact Nat.le_max_left _ _
        · exact Nat.le_trans (ih.1 u hu) (Nat.le_max_right _ _)
      · by_cases h : orderL r ≤ t.order + 1
        · exact ⟨t, List.mem_cons_self .., Nat.max_eq_left h⟩
        · cases r with
          | nil =>
            rw [orderL] at h
            exact absurd (Nat.zero_le _) h
          | cons u s =>
            obtain ⟨w, hw, e⟩ := ih.2 (by simp)
            exact ⟨w, List.mem_cons_of_mem _ hw, by rw [Nat.max_eq_right (by omega)]; exact e⟩
  intro l m h0 h1
  cases l with
  | nil =>
    rw [orderL]
    exact h0 rfl
  | cons t r =>
    obtain ⟨hm, top⟩ := h1 (by simp)
    obtain ⟨u1, u2⟩ := up (t :: r)
    obtain ⟨w, hw, e⟩ := u2 (by simp)
    obtain ⟨v, hv, ev⟩ := List.mem_map.mp hm
    have a1 := top _ (List.mem_map.mpr ⟨w, hw, rfl⟩)
    have a2 := u1 v hv
    omega
theorem words_ins {l : List Ty} {a : Str} {t : Ty} (h : (Ty.mk l a).words) (ht : t ∈ l) : t.words := by
  have sub : ∀ (l : List Ty) (t : Ty), t ∈ l → ∀ b ∈ t.places, b ∈ placesL l := by
    intro l
    induction l with
    | nil => intro t h; cases h
    | cons u r ih =>
      intro t h b hb
      rw [placesL_cons]
      rcases List.mem_cons.mp h with rfl | h
      · exact List.mem_append_left _ hb
      · exact List.mem_append_right _ (ih t h b hb)
  exact fun b hb => h b (by rw [places]; exact List.mem_append_left _ (sub l t ht b hb))
theorem few_ins {l : List Ty} {t : Ty} (ht : t ∈ l) : t.places.length ≤ (placesL l).length := by
  induction l with
  | nil => cases ht
  | cons u r ih =>
    rw [placesL_cons, List.length_append]
    rcases List.mem_cons.mp ht with rfl | h
    · omega
    · have := ih h
      omega
theorem low_ins {l : List Ty} {t : Ty} (ht : t ∈ l) : t.order + 1 ≤ orderL l := by
  induction l with
  | nil => cases ht
  | cons u r ih =>
    rw [orderL]
    rcases List.mem_cons.mp ht with rfl | h
    · exact Nat.le_max_left _ _
    · exact Nat.le_trans (ih h) (Nat.le_max_right _ _)
theorem Fits.ins {l : List Ty} {a : Str} {t : Ty} (f : (Ty.mk l a).Fits) (ht : t ∈ l) : t.Fits := by
  obtain ⟨w, n, o⟩ := f
  rw [places, List.length_append] at n
  rw [order] at o
  have h1 := few_ins ht
  have h2 := low_ins ht
  exact ⟨words_ins w ht, by omega, by omega⟩
end Ty

/-! ### types in the heap -/
mutual
def IsT (C : Addr) (H : Hp) : Ty → V → Prop
  | .mk i a, v => ∃ x dx p q rs, v = .ref x ∧ H x = some (.ins C dx [("_inputs", .ref p), ("_atom", .str a), ("_places", .ref q), ("_order", .int ((Ty.mk i a).order : Nat)), ("_text", .str (Ty.mk i a).text)]) ∧
    H p = some (.tup rs) ∧ IsTs C H i rs ∧ H q = some (.tup ((Ty.mk i a).places.map V.str))
def IsTs (C : Addr) (H : Hp) : List Ty → List V → Prop
  | [], rs => rs = []
  | t :: r, rs => ∃ v vs, rs = v :: vs ∧ IsT C H t v ∧ IsTs C H r vs
end
mutual
theorem IsT.same {C : Addr} {H H' : Hp} (s : Same H H') : ∀ (t : Ty) (v : V), IsT C H t v → IsT C H' t v
  | .mk i a, v, h => by
    rw [IsT] at h ⊢
    obtain ⟨x, dx, p, q, rs, e, hx, hp, hi, hq⟩ := h
    exact ⟨x, dx, p, q, rs, e, s _ _ hx, s _ _ hp, IsTs.same s i rs hi, s _ _ hq⟩
theorem IsTs.same {C : Addr} {H H' : Hp} (s : Same H H') : ∀ (l : List Ty) (rs : List V), IsTs C H l rs → IsTs C H' l rs
  | [], rs, h => by
    rw [IsTs] at h ⊢
    exact h
  | t :: r, rs, h => by
    rw [IsTs] at h ⊢
    obtain ⟨v, vs, e, h1, h2⟩ := h
    exact ⟨v, vs, e, IsT.same s t v h1, IsTs.same s r vs h2⟩
end
theorem IsTs.get {C : Addr} {H : Hp} : ∀ {l : List Ty} {rs : List V} {i : Nat} {v : V}, IsTs C H l rs → rs[i]? = some v → ∃ t, l[i]? = some t ∧ IsT C H t v
  | [], rs, i, v, h, e => by
    rw [IsTs] at h
    rw [h] at e
    cases e
  | t :: r, rs, i, v, h, e => by
    rw [IsTs] at h
    obtain ⟨w, ws, rfl, h1, h2⟩ := h
    cases i with
    | zero => exact ⟨t, rfl, by cases e; exact h1⟩
    | succ i => exact IsTs.get (l := r) (i := i) h2 e
theorem IsTs.len {C : Addr} {H : Hp} : ∀ {l : List Ty} {rs : List V}, IsTs C H l rs → rs.length = l.length
  | [], rs, h => by
    rw [IsTs] at h
    rw [h]
    rfl
  | t :: r, rs, h => by
    rw [IsTs] at h
    obtain ⟨w, ws, rfl, h1, h2⟩ := h
    rw [List.length_cons, IsTs.len h2, List.length_cons]
/-- what stands at a type's address -/
theorem IsT.at {C : Addr} {H : Hp} {t : Ty} {v : V} (h : IsT C H t v) : ∃ x dx p q rs, v = .ref x ∧ H x = some (.ins C dx [("_inputs", .ref p), ("_atom", .str t.atom), ("_places", .ref q), ("_order", .int (t.order : Nat)), ("_text", .str t.text)]) ∧
    H p = some (.tup rs) ∧ IsTs C H t.ins rs ∧ H q = some (.tup (t.places.map V.str)) := by
  cases t with
  | mk i a =>
    rw [IsT] at h
    exact h
theorem asg_go2 {i : Nat} {x : V} {σ : L2.St} {H : Hp} {N : L2.St → Hp → Prop} (h : N (σ.set i (some x)) H) : gName i x σ H N := h

/-! ### promises of the class -/
def sp__is_tuple_of_types (K : PySem.W.Frag) (C : Addr) : Sp := fun vs H Q _ => ∃ p rs l, vs = [.ref p] ∧ H p = some (.tup rs) ∧ IsTs C H l rs ∧ l.length ≤ 1000 ∧ ∀ H', Same H H' → Q (.bl true) H'
def sp__text_inside (K : PySem.W.Frag) (C : Addr) : Sp := fun vs H Q _ => ∃ v t, vs = [v] ∧ IsT C H t v ∧ t.text.length ≤ 100000 ∧ t.ins.length ≤ 1000 ∧ Q (.str t.inside) H
def sp_Type___init__ (K : PySem.W.Frag) (C : Addr) : Sp := fun vs H Q _ => ∃ x dx p rs l a, vs = [.ref x, .ref p, .str a] ∧ H x = some (.ins C dx []) ∧ H p = some (.tup rs) ∧ IsTs C H l rs ∧ (Ty.mk l a).Fits ∧
  ∀ q H', (∀ b o, b ≠ x → H b = some o → H' b = some o) → H' x = some (.ins C dx [("_inputs", .ref p), ("_atom", .str a), ("_places", .ref q), ("_order", .int ((Ty.mk l a).order : Nat)), ("_text", .str (Ty.mk l a).text)]) →
    H' q = some (.tup ((Ty.mk l a).places.map V.str)) → Q .non H'
section
variable {P : Program} {w : World} {K : PySem.W.Frag} {mg : Str → Option Value} {base : Heap} {C_Type : Addr}
theorem ty_of_ins {H : Hp} {a dx : Addr} {fs : List (Str × V)} (k : Cls K C_Type) (x : XType K C_Type) (h : H a = some (.ins C_Type dx fs)) : TyX K H (.ref a) (.ref C_Type) := .base (.ins h k x.cl1 x.cl2 x.cl3 x.cl4)
theorem kit_self (C : Addr) : PySem.W.kitOne K (.ref C) (.ref C) = some true := by
  unfold PySem.W.kitOne
  rw [if_pos (by simp)]
theorem ok__is_tuple_of_types (T : Txt K mg C_Type) {f : Addr} {fd : FuncData} (F : Fun K "_is_tuple_of_types" "_is_tuple_of_types" s__is_tuple_of_types f fd) : FnOk P w K mg base CX0 1 f fd ["value"] (sp__is_tuple_of_types K C_Type) := by
  have nd := sc__is_tuple_of_types.nd
  refine F.ok sc__is_tuple_of_types (fun vs H Q E h => ?_) (fun cdv A outer s H vs Q E hr h => ?_)
  · obtain ⟨p, rs, l, rfl, _⟩ := h
    rfl
  · obtain ⟨p, rs, l, rfl, hp, hl, hn, q⟩ := h
    refine ⟨_, (pss_one (ps_ret (pe_and (pe_callB call_isi (by rfl) T.b_isinstance (by decide +kernel) (pa_cons (pv 0) (pa_cons (pe_bltn (v := .ty "tuple") (u := .type "tuple") (by rfl) T.b_tuple (by decide +kernel) rfl) pa_nil))) (pe_one (pe_callB (cr_all rfl) (by rfl) T.b_all (by decide +kernel) (pa_cons (pe_lcD (own := [("one", 1)]) (by rfl) nd (pi_tup (pv 0)) (blkOk_by (own := [("one", 1)]) (N := ["value", "one"]) (sc := (defScope s__is_tuple_of_types)) (by decide +kernel)) (fun _ _ _ _ _ => pg_name (i := 1) nd rfl (Or.inl rfl)) (fun _ _ _ _ _ => pts_nil) (fun _ _ _ _ _ => (pe_callB call_isi (by rfl) T.b_isinstance (by decide +kernel) (pa_cons (pv 1) (pa_cons (pe_glob (v := .ref C_Type) rfl T.c_Type rfl) pa_nil))))) pa_nil)))))), ?_⟩
    refine ⟨.ref p, rfl, .ref p, .ty "tuple", .type "tuple", .type "tuple", true, rfl, .ty _, .base (.tup hp), kit_ty (by decide +kernel), true, rfl, iteT ?_⟩
    refine ⟨.ref p, rfl, p, rfl, ⟨rs, SqT.of hp⟩, fun D hD => lc_tup (xs := rs) (fun i H' => H' D = some (.lst ((List.replicate i true).map V.bl)) ∧ Same H H') ?_ (fun i H1 _ hP => SqT.of (hP.2 _ _ hp)) (fun i x H1 hx hP => ?_) (fun H1 hP => ?_)⟩
    · exact ⟨upd_same, (Same.refl H).mut hD⟩
    · obtain ⟨hD1, s1⟩ := hP
      obtain ⟨t, _, ht⟩ := hl.get hx
      obtain ⟨a, dx, p', q', rs', rfl, ha, _⟩ := (IsT.same s1 t x ht).at
      have io := lt_of_get hx
      rw [hl.len] at io
      refine ⟨rfl, tyes ?_⟩
      refine ⟨.ref a, rfl, .ref a, .ref C_Type, .ref C_Type, .ref C_Type, true, rfl, .own _, ty_of_ins T.k_Type T.x_Type ha, kit_self _, _, hD1, lt_line' ?_, ?_, s1.mut hD⟩
      · rw [List.length_map, List.length_replicate]
        omega
      · rw [upd_same, List.replicate_succ', List.map_append]
        rfl
    · obtain ⟨hD1, s1⟩ := hP
      refine ⟨D, _, rfl, SqL.of hD1, ?_⟩
      have e : (List.replicate rs.length true).all id = true := List.all_eq_true.mpr fun b hb => by
        rw [List.eq_of_mem_replicate hb]
        rfl
      rw [e]
      exact q _ s1
theorem ok__text_inside (T : Txt K mg C_Type) (p_Type_inputs : PrpC P w K mg base C_Type "inputs" 1 ["self"] (getSp C_Type "_inputs")) (p_Type_text : PrpC P w K mg base C_Type "text" 1 ["self"] (getSp C_Type "_text")) {f : Addr} {fd : FuncData} (F : Fun K "_text_inside" "_text_inside" s__text_inside f fd) : FnOk P w K mg base CX0 3 f fd ["wanted"] (sp__text_inside K C_Type) := by
  have nd := sc__text_inside.nd
  refine F.ok sc__text_inside (fun vs H Q E h => ?_) (fun cdv A outer s H vs Q E hr h => ?_)
  · obtain ⟨v, t, rfl, _⟩ := h
    rfl
  · obtain ⟨v, t, rfl, ht, hz, hi, q⟩ := h
    refine ⟨_, (pss_cons (ps_if (pt_truth (pe_propC p_Type_inputs T.k_Type (hr.mono (by first | decide | omega)) (pv 0)) (by intro _; rfl)) (pss_one (ps_ret (pe_joined (PJ.cons pe_str (PJ.cons (pe_fmt (pe_propC p_Type_text T.k_Type (hr.mono (by first | decide | omega)) (pv 0))) (PJ.cons pe_str PJ.nil)))))) pss_nil)
      (pss_one (ps_ret (pe_propC p_Type_text T.k_Type (hr.mono (by first | decide | omega)) (pv 0))))), ?_⟩
    obtain ⟨a, dx, p, q', rs, rfl, ha, hp, hs, hq⟩ := ht.at
    refine ⟨.ref a, rfl, a, dx, _, rfl, ha, a, dx, _, .ref p, rfl, ha, rfl, _, .inr (.inl ⟨rs, SqT.of hp, rfl⟩), ?_⟩
    have hl := hs.len
    unfold Ty.inside at q
    cases hc : t.ins with
    | nil =>
      rw [hc] at hl q
      rw [List.length_eq_zero_iff.mp hl]
      refine iteF ?_
      exact ⟨.ref a, rfl, a, dx, _, rfl, ha, a, dx, _, .str t.text, rfl, ha, rfl, q⟩
    | cons t' r =>
      rw [hc] at hl q
      cases rs with
      | nil => cases hl
      | cons y ys =>
        refine iteT ?_
        refine ⟨"(", rfl, by decide +kernel, .ref a, rfl, a, dx, _, rfl, ha, a, dx, _, .str t.text, rfl, ha, rfl, .inl ⟨_, rfl, lt_line (by omega), _, rfl, ?_, ")", rfl, ?_, ?_⟩⟩
        · rw [len_tl, tl_append, List.length_append, ← len_tl, ← len_tl]
          exact lt_line (by have : (Str.empty ++ ("(" : Str)).length = 1 := by decide +kernel
                            omega)
        · rw [len_tl, tl_append, tl_append, List.length_append, List.length_append, ← len_tl, ← len_tl, ← len_tl]
          exact lt_line (by have h1 : (Str.empty ++ ("(" : Str)).length = 1 := by decide +kernel
                            have h2 : ((")" : Str)).length = 1 := by decide +kernel
                            omega)
        · have e : Str.empty ++ ("(" : Str) = ("(" : Str) := by decide +kernel
          rw [e]
          exact q
end


end My
namespace My
open PySem PySem.Spec PyProof.Rows L2 TL
set_option pp.maxSteps 3000
set_option pp.deepTerms false
/-! ### what stays, but for new instances -/
/-- all stays but an instance without fields -/
def Kept (H H' : Hp) : Prop := ∀ b o, H b = some o → (∀ C dx, o ≠ .ins C dx []) → H' b = some o
theorem _root_.L2.Same.kept {H H' : Hp} (s : Same H H') : Kept H H' := fun b o h _ => s b o h
theorem Kept.same {H H' H2 : Hp} (k : Kept H H') (s : Same H' H2) : Kept H H2 := fun b o h n => s b o (k b o h n)
theorem Kept.new {H H' : Hp} (k : Kept H H') {x C dx : Addr} {o : HO} (h : H x = some (.ins C dx [])) : Kept H (upd H' x o) := fun b u hb n => by
  rw [upd_ne (ne_of hb h (n C dx))]
  exact k b u hb n
theorem Ty.ins_len (t : Ty) : t.ins.length ≤ t.places.length := by
  cases t with
  | mk i a =>
    rw [Ty.places, List.length_append]
    exact Nat.le_trans (Ty.len_placesL i) (Nat.le_add_right _ _)
theorem putF_new (f : Str) (v : V) : ∀ fs : List (Str × V), (∀ g ∈ fs.map (·.1), g ≠ f) → putF f v fs = fs ++ [(f, v)]
  | [], _ => rfl
  | (g, x) :: r, h => by
    unfold putF
    rw [if_neg (h g (List.mem_cons_self ..)), putF_new f v r fun k hk => h k (List.mem_cons_of_mem _ hk)]
    rfl
mutual
theorem IsT.kept {C : Addr} {H H' : Hp} (s : Kept H H') : ∀ (t : Ty) (v : V), IsT C H t v → IsT C H' t v
  | .mk i a, v, h => by
    rw [IsT] at h ⊢
    obtain ⟨x, dx, p, q, rs, e, hx, hp, hi, hq⟩ := h
    exact ⟨x, dx, p, q, rs, e, s _ _ hx (fun _ _ z => nomatch z), s _ _ hp (fun _ _ z => nomatch z), IsTs.kept s i rs hi, s _ _ hq (fun _ _ z => nomatch z)⟩
theorem IsTs.kept {C : Addr} {H H' : Hp} (s : Kept H H') : ∀ (l : List Ty) (rs : List V), IsTs C H l rs → IsTs C H' l rs
  | [], rs, h => by
    rw [IsTs] at h ⊢
    exact h
  | t :: r, rs, h => by
    rw [IsTs] at h ⊢
    obtain ⟨v, vs, e, h1, h2⟩ := h
    exact ⟨v, vs, e, IsT.kept s t v h1, IsTs.kept s r vs h2⟩
end
theorem nx_go {D : Ends} {σ : L2.St} {H : Hp} (h : D.nx σ H) : tNext D σ H := h
section
variable {P : Program} {w : World} {K : PySem.W.Frag} {mg : Str → Option Value} {base : Heap} {C_Type : Addr}
theorem ok_Type___init__ (T : Txt K mg C_Type) (c__is_tuple_of_types : CalN P w K mg base "_is_tuple_of_types" 1 ["value"] (sp__is_tuple_of_types K C_Type)) (c_is_word : CalN P w K mg base "is_word" 1 ["value"] (sp_is_word K)) (p_Type_order : PrpC P w K mg base C_Type "order" 1 ["self"] (getSp C_Type "_order")) (c__text_inside : CalN P w K mg base "_text_inside" 3 ["wanted"] (sp__text_inside K C_Type)) {f : Addr} {fd : FuncData} (F : Fun K "__init__" "Type.__init__" s_Type___init__ f fd) : FnOk P w K mg base CX0 4 f fd ["self", "inputs", "atom"] (sp_Type___init__ K C_Type) := by
  have nd := sc_Type___init__.nd
  refine F.ok sc_Type___init__ (fun vs H Q E h => ?_) (fun cdv A outer s H vs Q E hr h => ?_)
  · obtain ⟨x, dx, p, rs, l, a, rfl, _⟩ := h
    rfl
  · obtain ⟨x, dx, p, rs, l, a, rfl, hx, hp, hl, fit, q⟩ := h
    refine ⟨_, (pss_cons (ps_if (pt_not (pt_val (pe_callN c__is_tuple_of_types (hr.mono (by first | decide | omega)) rfl (pa_cons (pv 1) pa_nil)))) (pss_one ps_never) pss_nil)
      (pss_cons (ps_if (pt_not (pt_val (pe_callN c_is_word (hr.mono (by first | decide | omega)) rfl (pa_cons (pv 2) pa_nil)))) (pss_one ps_never) pss_nil)
      (pss_cons (ps_set (i := 3) nd rfl (.inl rfl) (pe_op op_cat (pe_lc2D (own := [("one", 5), ("word", 6)]) (vs1 := [6]) (by rfl) nd (pi_tup (pv 1)) (blkOk_by (own := [("one", 5), ("word", 6)]) (N := ["self", "inputs", "atom", "places", "order", "one", "word"]) (sc := (defScope s_Type___init__)) (by decide +kernel)) (by decide) (fun _ _ _ _ _ => pg_name (i := 5) nd rfl (Or.inl rfl)) (fun _ _ _ _ _ => pts_nil) (fun _ _ _ _ _ => (pi_tup (pe_fld (pv 5) rfl))) (fun _ _ _ _ _ => pg_name (i := 6) nd rfl (Or.inl rfl)) (fun _ _ _ _ _ => pts_nil) (fun _ _ _ _ _ => (pv 6))) (pe_lst (pa_cons (pv 2) pa_nil))))
      (pss_cons (ps_set (i := 4) nd rfl (.inl rfl) (pe_maxD rfl (by rfl) T.b_max (pe_lcD (own := [("one", 5)]) (by rfl) nd (pi_tup (pv 1)) (blkOk_by (own := [("one", 5)]) (N := ["self", "inputs", "atom", "places", "order", "one", "word"]) (sc := (defScope s_Type___init__)) (by decide +kernel)) (fun _ _ _ _ _ => pg_name (i := 5) nd rfl (Or.inl rfl)) (fun _ _ _ _ _ => pts_nil) (fun _ _ _ _ _ => (pe_op op_add (pe_propC p_Type_order T.k_Type (hr.mono (by first | decide | omega)) (pv 5)) pe_int))) pe_int))
      (pss_cons (ps_if (PW.pt (pw_or (pt_cmpR op_gt (pe_callB call_len (by rfl) T.b_len (by decide +kernel) (pa_cons (pv 3) pa_nil)) (pe_globE rfl T.g_MAX_PLACES) (nomark _)) (pw_or1 (pt_cmpR op_gt (pv 4) (pe_globE rfl T.g_MAX_ORDER) (nomark _))))) (pss_one ps_never) pss_nil)
      (pss_cons (ps_fld (pv 0) (pv 1) rfl)
      (pss_cons (ps_fld (pv 0) (pv 2) rfl)
      (pss_cons (ps_fld (pv 0) (pe_callTy call_tuple_of (by rfl) T.b_tuple (by decide +kernel) (pa_cons (pv 3) pa_nil)) rfl)
      (pss_cons (ps_fld (pv 0) (pv 4) rfl)
      (pss_one (ps_fld (pv 0) (pe_join (pe_globE rfl T.g__ARROW) (pe_op op_cat (pe_lcD (own := [("one", 5)]) (by rfl) nd (pi_tup (pv 1)) (blkOk_by (own := [("one", 5)]) (N := ["self", "inputs", "atom", "places", "order", "one", "word"]) (sc := (defScope s_Type___init__)) (by decide +kernel)) (fun _ _ _ _ _ => pg_name (i := 5) nd rfl (Or.inl rfl)) (fun _ _ _ _ _ => pts_nil) (fun _ _ _ _ _ => (pe_callN c__text_inside (hr.mono (by first | decide | omega)) rfl (pa_cons (pv 5) pa_nil)))) (pe_lst (pa_cons (pv 2) pa_nil)))) rfl))))))))))), ?_⟩
    obtain ⟨fw, fn, fo⟩ := id fit
    have pl : (Ty.mk l a).places = Ty.placesL l ++ [a] := by rw [Ty.places]
    have few : (Ty.placesL l).length ≤ 14 := by
      rw [pl, List.length_append] at fn
      exact Nat.le_of_succ_le_succ fn
    have len : l.length ≤ 14 := Nat.le_trans (Ty.len_placesL l) few
    have aw := fw a (by rw [pl]; exact List.mem_append_right _ (List.mem_singleton.mpr rfl))
    have al := isW_len aw.1
    have hrl := hl.len
    -- the two looks
    refine ⟨.ref p, rfl, p, rs, l, rfl, hp, hl, by omega, fun H1 s1 => ⟨true, rfl, iteF ?_⟩⟩
    refine ⟨.str a, rfl, .str a, rfl, .inl ⟨a, rfl, by omega, aw.2⟩, fun H2 s2 => ⟨true, congrArg V.bl aw.1, iteF ?_⟩⟩
    have s12 := s1.trans s2
    clear s1 s2
    -- places
    refine nx_go ?_
    dsimp only
    refine cut_set (fun v H' => ∃ d, v = .ref d ∧ H' d = some (.lst ((Ty.mk l a).places.map V.str)) ∧ Same H H') (fun Q' q' => ?_) ?_
    · refine ⟨.ref p, rfl, p, rfl, ⟨rs, SqT.of (s12 _ _ hp)⟩, fun D hD => ?_⟩
      have nD : H D = none := s12.free hD
      refine walk_tup (xs := rs) (fun i H' => H' D = some (.lst ((Ty.placesL (l.take i)).map V.str)) ∧ Same H H') ?_ (fun i H' _ hP => SqT.of (hP.2 _ _ hp)) (fun i y H' hy hP => ?_) (fun H' hP => ?_)
      · exact ⟨by rw [upd_same, List.take_zero, Ty.placesL_nil]; rfl, s12.mut nD⟩
      · obtain ⟨hD1, s1⟩ := hP
        obtain ⟨t, et, ht⟩ := hl.get hy
        obtain ⟨b, dx', p', q', rs', rfl, hb, _, _, hq⟩ := (IsT.same s1 t y ht).at
        have tl : t.places.length ≤ 14 := Nat.le_trans (Ty.few_ins (List.mem_of_getElem? et)) few
        refine ⟨rfl, tyes ?_⟩
        refine ⟨.ref b, rfl, b, C_Type, dx', _, .ref q', rfl, hb, T.k_Type, T.x_Type.n_places, rfl, q', rfl, ⟨_, SqT.of hq⟩, ?_⟩
        refine walk_tup (xs := t.places.map V.str) (fun j H'' => H'' D = some (.lst ((Ty.placesL (l.take i) ++ t.places.take j).map V.str)) ∧ Same H H'' ∧ H'' q' = some (.tup (t.places.map V.str))) ?_ (fun i H' _ hP => SqT.of hP.2.2) (fun j y H'' hy2 hP => ?_) (fun H'' hP => ?_)
        · exact ⟨by rw [List.take_zero, List.append_nil]; exact hD1, s1, hq⟩
        · obtain ⟨hD2, s2, hq2⟩ := hP
          rw [List.getElem?_map] at hy2
          cases hz : t.places[j]? with
          | none =>
            rw [hz] at hy2
            cases hy2
          | some z =>
            rw [hz] at hy2
            cases hy2
            have jl := lt_of_get hz
            have i14 : (Ty.placesL (l.take i)).length ≤ 14 := by
              have e : l = l.take i ++ l.drop i := (List.take_append_drop i l).symm
              have : (Ty.placesL l).length = (Ty.placesL (l.take i)).length + (Ty.placesL (l.drop i)).length := by
                rw [← List.length_append, ← Ty.placesL_append, ← e]
              omega
            refine ⟨rfl, tyes ?_⟩
            refine ⟨_, rfl, _, hD2, lt_line' ?_, ?_, s2.mut nD, ?_⟩
            · rw [List.length_map, List.length_append, List.length_take]
              omega
            · rw [upd_same, take_next hz, ← List.append_assoc, List.map_append (l₂ := [z])]
              rfl
            · rw [upd_ne (ne_of hq2 hD2 (fun z => nomatch z))]
              exact hq2
        · obtain ⟨hD2, s2, hq2⟩ := hP
          refine ⟨?_, s2⟩
          rw [hD2, List.length_map, List.take_length, take_next et, Ty.placesL_append, Ty.placesL_cons, Ty.placesL_nil, List.append_nil]
      · obtain ⟨hD1, s1⟩ := hP
        rw [hrl, List.take_length] at hD1
        refine ⟨.str a, rfl, by show 1 ≤ sizeLine; decide, fun d1 h1 => ?_⟩
        refine ⟨D, d1, _, [.str a], rfl, rfl, by rw [upd_ne (ne_of_none hD1 h1)]; exact hD1, upd_same, lt_line (by rw [List.length_map]; show _ + 1 ≤ _; omega), fun d2 h2 => ?_⟩
        refine q' _ _ ⟨d2, rfl, ?_, (s1.new h1).new h2⟩
        rw [upd_same, pl, List.map_append]
        rfl
    rintro v H3 ⟨dp, rfl, hdp, s3⟩
    refine cut_set (fun v H' => v = .int (((Ty.mk l a).order : Nat) : Int) ∧ H' dp = some (.lst ((Ty.mk l a).places.map V.str)) ∧ Same H H') (fun Q' q' => ?_) ?_
    · refine ⟨.ref p, rfl, p, rfl, ⟨rs, SqT.of (s3 _ _ hp)⟩, fun D hD => ?_⟩
      have nD : H D = none := s3.free hD
      refine lc_tup (xs := rs) (fun i H' => H' D = some (.lst (((l.take i).map (fun t => ((t.order : Nat) : Int) + 1)).map V.int)) ∧ H' dp = some (.lst ((Ty.mk l a).places.map V.str)) ∧ Same H H') ?_ (fun i H' _ hP => SqT.of (hP.2.2 _ _ hp)) (fun i y H' hy hP => ?_) (fun H' hP => ?_)
      · exact ⟨by rw [upd_same, List.take_zero]; rfl, by rw [upd_ne (ne_of_none hdp hD)]; exact hdp, s3.mut nD⟩
      · obtain ⟨hD1, hd1, s1⟩ := hP
        obtain ⟨t, et, ht⟩ := hl.get hy
        obtain ⟨b, dx', p', q', rs', rfl, hb, _⟩ := (IsT.same s1 t y ht).at
        have io := lt_of_get hy
        rw [hrl] at io
        refine ⟨rfl, tyes ?_⟩
        refine ⟨.ref b, rfl, b, dx', _, rfl, hb, b, dx', _, .int ((t.order : Nat) : Int), rfl, hb, rfl, ((t.order : Nat) : Int), 1, rfl, rfl, _, hD1, lt_line' ?_, ?_, ?_, s1.mut nD⟩
        · rw [List.length_map, List.length_map, List.length_take]
          omega
        · rw [upd_same, take_next et, List.map_append, List.map_append]
          rfl
        · rw [upd_ne]
          · exact hd1
          · intro e
            subst e
            rw [hdp] at hD
            cases hD
      · obtain ⟨hD1, hd1, s1⟩ := hP
        rw [hrl, List.take_length] at hD1
        refine ⟨_, rfl, D, l.map (fun t => ((t.order : Nat) : Int) + 1), 0, rfl, rfl, SqL.of hD1, fun m h0 h1 => q' _ _ ⟨?_, hd1, s1⟩⟩
        rw [Ty.orderL_max l m h0 h1, Ty.order]
    rintro v H4 ⟨rfl, hd4, s4⟩
    refine ⟨.ref dp, rfl, _, _, rfl, .inl ⟨_, SqL.of hd4, rfl⟩, _, _, rfl, rfl, false, congrArg V.bl (decide_eq_false (by rw [List.length_map]; omega)), iteF ?_⟩
    refine ⟨_, rfl, _, _, rfl, rfl, false, congrArg V.bl (decide_eq_false (by omega)), iteF ?_⟩
    refine nx_go ?_
    dsimp only
    have hx4 := s4 _ _ hx
    refine ⟨.ref p, rfl, .ref x, rfl, x, C_Type, dx, _, rfl, hx4, T.k_Type, T.x_Type.n_inputs, by decide, ?_⟩
    rw [show putF "_inputs" (V.ref p) [] = [(("_inputs" : Str), V.ref p)] from rfl]
    refine ⟨.str a, rfl, .ref x, rfl, x, C_Type, dx, _, rfl, upd_same, T.k_Type, T.x_Type.n_atom, by show 1 < 1000; decide, ?_⟩
    rw [upd_upd, putF_new "_atom" (V.str a) [(("_inputs" : Str), V.ref p)] (show ∀ g ∈ (["_inputs"] : List Str), g ≠ "_atom" by decide +kernel), List.cons_append, List.nil_append]
    have xd : dp ≠ x := ne_of hd4 hx4 (fun z => nomatch z)
    have k5 : ∀ o, Kept H (upd H4 x o) := fun o => s4.kept.new hx
    refine ⟨.ref dp, rfl, dp, _, rfl, .inl ⟨SqL.of ((upd_ne xd).trans hd4), fun q0 hq0 => ?_⟩⟩
    have q0x : x ≠ q0 := ne_of_none upd_same hq0
    refine ⟨.ref x, rfl, x, C_Type, dx, _, rfl, (upd_ne q0x).trans upd_same, T.k_Type, T.x_Type.n_places, by show 2 < 1000; decide, ?_⟩
    rw [putF_new "_places" (V.ref q0) [(("_inputs" : Str), V.ref p), ("_atom", V.str a)] (show ∀ g ∈ (["_inputs", "_atom"] : List Str), g ≠ "_places" by decide +kernel), List.cons_append, List.cons_append, List.nil_append]
    refine ⟨_, rfl, .ref x, rfl, x, C_Type, dx, _, rfl, upd_same, T.k_Type, T.x_Type.n_order, by show 3 < 1000; decide, ?_⟩
    rw [upd_upd, putF_new "_order" (.int (((Ty.mk l a).order : Nat) : Int)) [(("_inputs" : Str), V.ref p), ("_atom", V.str a), ("_places", V.ref q0)] (show ∀ g ∈ (["_inputs", "_atom", "_places"] : List Str), g ≠ "_order" by decide +kernel), List.cons_append, List.cons_append, List.cons_append, List.nil_append]
    generalize hH6 : upd (upd (upd H4 x _) q0 _) x _ = H6
    have hx6 : H6 x = some (.ins C_Type dx [("_inputs", .ref p), ("_atom", .str a), ("_places", .ref q0), ("_order", .int (((Ty.mk l a).order : Nat) : Int))]) := by rw [← hH6, upd_same]
    have hq6 : H6 q0 = some (.tup ((Ty.mk l a).places.map V.str)) := by rw [← hH6, upd_ne (Ne.symm q0x), upd_same]
    have k6 : Kept H H6 := by
      rw [← hH6]
      exact Kept.new (fun b o hb n => by rw [upd_ne (ne_of_none (k5 _ b o hb n) hq0)]; exact k5 _ b o hb n) hx
    have o6 : ∀ b o, b ≠ x → H b = some o → H6 b = some o := fun b o bx hb => by
      have h5 : ∀ u, upd H4 x u b = some o := fun u => by
        rw [upd_ne bx]
        exact s4 b o hb
      rw [← hH6, upd_ne bx, upd_ne (ne_of_none (h5 _) hq0)]
      exact h5 _
    clear hH6
    have hp6 := k6 _ _ hp (fun _ _ z => nomatch z)
    refine ⟨⟨_, rfl⟩, .ref p, rfl, p, rfl, ⟨rs, SqT.of hp6⟩, fun D hD => ?_⟩
    refine lc_tup (xs := rs) (fun i H' => H' D = some (.lst (((l.take i).map Ty.inside).map V.str)) ∧ Same H6 H') ?_ (fun i H' _ hP => SqT.of (hP.2 _ _ hp6)) (fun i y H' hy hP => ?_) (fun H' hP => ?_)
    · exact ⟨by rw [upd_same, List.take_zero]; rfl, (Same.refl H6).mut hD⟩
    · obtain ⟨hD1, s1⟩ := hP
      obtain ⟨t, et, ht⟩ := hl.get hy
      have ft := fit.ins (List.mem_of_getElem? et)
      have io := lt_of_get hy
      rw [hrl] at io
      have f2 := ft.few
      refine ⟨rfl, tyes ?_⟩
      refine ⟨y, rfl, y, t, rfl, IsT.kept (k6.same s1) t y ht, Nat.le_trans (Ty.text_small ft.words ft.few) (by decide), Nat.le_trans t.ins_len (by omega), _, hD1, lt_line' ?_, ?_, s1.mut hD⟩
      · rw [List.length_map, List.length_map, List.length_take]
        omega
      · rw [upd_same, take_next et, List.map_append, List.map_append]
        rfl
    · obtain ⟨hD1, s1⟩ := hP
      rw [hrl, List.take_length, ← Ty.insideL_map] at hD1
      have ln : (Ty.insideL l).length = l.length := by rw [Ty.insideL_map, List.length_map]
      refine ⟨.str a, rfl, by show 1 ≤ sizeLine; decide, fun d1 h1 => ?_⟩
      refine ⟨D, d1, _, [.str a], rfl, rfl, by rw [upd_ne (ne_of_none hD1 h1)]; exact hD1, upd_same, lt_line (by rw [List.length_map, ln]; show _ + 1 ≤ _; omega), fun d2 h2 => ?_⟩
      have s9 := (s1.new (o := .lst [.str a]) h1).new (o := .lst ((Ty.insideL l).map V.str ++ [.str a])) h2
      refine ⟨" -> ", d2, Ty.insideL l ++ [a], rfl, rfl, .inl (SqL.of ?_), ?_, ?_⟩
      · rw [upd_same, List.map_append]
        rfl
      · have i1 := Ty.insideL_len l (fun b hb => (isW_len (fw b (by rw [pl]; exact List.mem_append_left _ hb)).1).2)
        have sep : (" -> " : Str).length = 4 := by decide +kernel
        rw [List.map_append, List.sum_append, List.length_append, sep, ln]
        show _ + [a.length].sum + (l.length + 1) * 4 ≤ 16777216
        rw [show [a.length].sum = a.length from Nat.add_zero _]
        omega
      · refine ⟨.ref x, rfl, x, C_Type, dx, _, rfl, s9 _ _ hx6, T.k_Type, T.x_Type.n_text, by show 4 < 1000; decide, ?_⟩
        rw [putF_new "_text" (.str (Txt.join " -> " (Ty.insideL l ++ [a]))) [(("_inputs" : Str), V.ref p), ("_atom", V.str a), ("_places", V.ref q0), ("_order", .int (((Ty.mk l a).order : Nat) : Int))] (show ∀ g ∈ (["_inputs", "_atom", "_places", "_order"] : List Str), g ≠ "_text" by decide +kernel)]
        refine q q0 _ (fun b o bx hb => ?_) ?_ ?_
        · rw [upd_ne bx]
          exact s9 b o (o6 b o bx hb)
        · rw [upd_same, Ty.text]
          rfl
        · rw [upd_ne (Ne.symm q0x)]
          exact s9 _ _ hq6
end


end My
namespace My
open PySem PySem.Spec PyProof.Rows L2 TL
/-! ### sets of texts: made of a tuple or a list of texts, sorted -/
section
open PySem.Froz
/-- what a set of texts keeps: its payload holds the texts L, each once; its table rises and can be walked -/
structure TxR (P : Program) (w : World) (D : SD) (L : List Str) : Prop where
  ok : TxOk P w D L
  nd : L.Nodup
  rows : ((D.1.toList.map (·.2)).map strOf).Perm L
  str : ∀ v ∈ D.1.toList.map (·.2), ∃ k u, v = Value.str k u
  ris : Ris D.2.2.place.toList
  led : w.params.followText "set-order" = true ∨ D.2.2.led = true
theorem tailTx_eq (ep : Nat) (es : Array (Int × Value)) (t : SetTable) (b : Bool) : ∃ es' ep' t', tailTx ep es t b = (es', ep', t') ∧ es'.toList.Perm es.toList ∧ (Ris t.place.toList → Ris t'.place.toList) ∧ t'.led = t.led := by
  unfold tailTx
  by_cases c : (!b && t.tooFull) = true
  · rw [if_pos c]
    exact ⟨_, _, _, rfl, relayAll_perm _ _ _, fun _ => relayAll_ris _ _ _, relayAll_led _ _ _⟩
  · rw [if_neg c]
    exact ⟨_, _, _, rfl, List.Perm.refl _, id, rfl⟩
theorem TxR.add {P : Program} {w : World} {D : SD} {L : List Str} {k : Str} (u : Tok) (F : TxR P w D L) (hk : k ∉ L) : TxR P w (addTx (hashStr w k) (.str k u) D) (k :: L) := by
  have ok := add_ok u F.ok (k := k)
  obtain ⟨es, ep, t⟩ := D
  obtain ⟨_, nd, rows, str, ris, led⟩ := F
  have p0 := layNew_perm t es (hashStr w k) (.str k u)
  have r0 := layNew_ris t es (hashStr w k) (.str k u) ris
  have l0 := layNew_led t es (hashStr w k) (.str k u)
  rw [Array.toList_push] at p0
  unfold addTx at ok ⊢
  dsimp only at ok ⊢
  generalize hZ : layNew t es (hashStr w k) (.str k u) = Z at p0 r0 l0 ok ⊢
  obtain ⟨es1, t1, wd, gave⟩ := Z
  dsimp only at p0 r0 l0 ok ⊢
  have off : ∀ (c : Bool), ((if c = true then { t1 with plain := false } else t1 : SetTable)).place = t1.place ∧ (if c = true then { t1 with plain := false } else t1 : SetTable).led = t1.led := fun c => by cases c <;> exact ⟨rfl, rfl⟩
  obtain ⟨o1, o2⟩ := off t1.plain
  obtain ⟨es', ep', t', e, pe, re, le⟩ := tailTx_eq ep es1 (if t1.plain = true then { t1 with plain := false } else t1) wd
  rw [e] at ok ⊢
  have pp : (es'.toList.map (·.2)).Perm (es.toList.map (·.2) ++ [Value.str k u]) := by
    have q := (pe.trans p0).map (·.2)
    rw [List.map_append] at q
    exact q
  refine ⟨ok, List.nodup_cons.mpr ⟨hk, nd⟩, ?_, fun v hv => ?_, re (by rw [o1]; exact r0), led.imp id fun z => by rw [le, o2, l0]; exact z⟩
  · have q := pp.map strOf
    rw [List.map_append] at q
    exact q.trans ((List.perm_append_singleton _ _).trans (rows.cons k))
  · rcases List.mem_append.mp (pp.mem_iff.mp hv) with z | z
    · exact str v z
    · exact ⟨k, u, List.mem_singleton.mp z⟩
section
variable {P : Program} {w : World} {A : Around} {E : Value → Shared → Prop} {s : Shared}
theorem add_old {a : Addr} {T : String} {D : SD} {L : List Str} {k : Str} {u : Tok} {Q : Bool → Shared → Prop} (ho : s.heap.get? a = some (sObj T D)) (F : TxOk P w D L) (hk : k ∈ L) (hb : L.length < scanBound) (h : Q false s) :
    wpAny (model P w) A (setAddHashed a (.str k u) (hashStr w k)) Q E s := by
  obtain ⟨es, ep, t⟩ := D
  have hd : (sObj T (es, ep, t)).data = .set es ep t := rfl
  have hf : t.fits es.size = true := F.fit
  have hel : ElemsOf (PySem.strKind P w) es.toList := F.el
  have hsz : es.size = L.length := F.sz
  cases hfi : List.findIdx? (fun e => (PySem.strKind P w).is k e.2) es.toList with
  | none =>
    obtain ⟨e, he, z⟩ := (F.mem k).mp hk
    have c := List.findIdx?_eq_none_iff.mp hfi e he
    rw [z] at c
    cases c
  | some j =>
    unfold setAddHashed setAddHashedIn
    refine wpAny_holding (wpAny_bind (wpAny_setState_of ho hd hf ?_))
    dsimp only
    rw [byScan_of rfl (by omega) hel]
    simp only [↓reduceIte]
    unfold setAddByScan
    refine wpAny_bind (wpAny_bind (wpAny_rule (wpAny_bind (wpAny_setScan_of (knd := PySem.strKind P w) (k := k) (is_str k u) ho hd hf hel ?_))))
    rw [hfi]
    dsimp only
    exact wpAny_pure (wpAny_pure h)
end
/-- the set of texts at a -/
def SetS (P : Program) (w : World) (h : Heap) (a : Addr) (L : List Str) : Prop := ∃ D, h.get? a = some (sObj "set" D) ∧ TxR P w D L
theorem SetS.at {P : Program} {w : World} {h h' : Heap} {a : Addr} {L : List Str} (R : SetS P w h a L) (k : ∀ o, h.get? a = some o → h'.get? a = some o) : SetS P w h' a L := by
  obtain ⟨D, ho, r⟩ := R
  exact ⟨D, k _ ho, r⟩
def freshSet (w : World) : Obj := { cls := .type "set", dict := none, data := .set #[] 0 (.fresh 0 0 (!w.params.followText "set-order")) }
theorem SetS.fresh {P : Program} {w : World} {h : Heap} {a : Addr} (ho : h.get? a = some (freshSet w)) : SetS P w h a [] :=
  ⟨(#[], 0, .fresh 0 0 (!w.params.followText "set-order")), ho, .nil rfl, List.nodup_nil, List.Perm.refl _, fun v hv => (by simp at hv), List.Pairwise.nil, by
    show _ ∨ (!w.params.followText "set-order") = true
    cases w.params.followText "set-order"
    · exact .inr rfl
    · exact .inl rfl⟩
section
variable {P : Program} {w : World} {A : Around} {E : Value → Shared → Prop} {s : Shared}
/-- one text more -/
theorem SetS.put {a : Addr} {L : List Str} {k : Str} {u : Tok} {Q : Bool → Shared → Prop} (R : SetS P w s.heap a L) (room : L.length + 1 < scanBound)
    (h : ∀ b h' L', Heap.SameBut a s.heap h' → SetS P w h' a L' → L'.length ≤ L.length + 1 → (∀ x, x ∈ L' ↔ x = k ∨ x ∈ L) → Q b { s with heap := h' }) :
    wpAny (model P w) A (setAddHashed a (.str k u) (hashStr w k)) Q E s := by
  obtain ⟨D, ho, r⟩ := R
  by_cases hk : k ∈ L
  · exact add_old ho r.ok hk (by omega) (h false s.heap L (Heap.SameBut.refl a s.heap) ⟨D, ho, r⟩ (Nat.le_succ _) fun x => ⟨.inr, fun z => z.elim (fun e => e ▸ hk) id⟩)
  · refine add_x ho r.ok hk room (h true _ (k :: L) (Heap.SameBut.update s.heap a _) ⟨_, get_upd _ ho rfl, r.add u hk⟩ (Nat.le_refl _) fun x => List.mem_cons)
/-- the loop that puts a walk's texts into the set -/
theorem put_texts {I : Addr} {fp wr : List Addr} {G : Array GenState → Array GenState → Prop} {n : Nat} {Pv : Nat → Value → Prop} {St : Nat → Shared → Prop} {R : Result → Shared → Prop}
    (W : WalksS P w A.in1 I fp wr G n Pv St) (S : Addr) (far : S ∉ fp) (ks : List Str) (hn : n = ks.length) (few : ks.length + 1 < scanBound) (txt : ∀ i v, Pv i v → ∃ k u, ks[i]? = some k ∧ v = .str k u) :
    ∀ (m i : Nat) (s : Shared), n - i = m → i ≤ n → St i s → (∃ L, L.length ≤ i ∧ (∀ x, x ∈ L ↔ x ∈ ks.take i) ∧ SetS P w s.heap S L) →
      (∀ s' L, Moved (S :: wr) G s s' → L.length ≤ n → (∀ x, x ∈ L ↔ x ∈ ks) → SetS P w s'.heap S L → R (.ok (.ret .none)) s') →
      codeAny (model P w) A (.builtin "set.update.loop" ⟨[.ref S, .ref I], []⟩) R s := by
  have notW : S ∉ wr := fun z => far (W.sub _ z)
  have wider : ∀ b ∈ wr, b ∈ S :: wr := fun b => List.mem_cons_of_mem _
  intro m
  induction m with
  | zero =>
    intro i s hm hi st ⟨L, hL, mem, hS⟩ fin
    obtain rfl : i = n := by omega
    refine codeAny_builtin F.entry_set_update_loop ?_
    rw [Around.under_plainId F.plain_set_update_loop _]
    refine wpAny_bind (W.done s _ _ st fun s' mv => ?_)
    rw [List.take_of_length_le (by omega)] at mem
    exact wpAny_pure (fin s' L (mv.mono wider) hL mem (hS.at fun o e => mv.heap S o notW e))
  | succ m ih =>
    intro i s hm hi st ⟨L, hL, mem, hS⟩ fin
    have lt : i < n := by omega
    refine codeAny_builtin F.entry_set_update_loop ?_
    rw [Around.under_plainId F.plain_set_update_loop _]
    refine wpAny_bind (W.item i s _ _ lt st fun v s1 hv st1 mv => ?_)
    obtain ⟨k, u, hk, rfl⟩ := txt i v hv
    have hS1 : SetS P w s1.heap S L := hS.at fun o e => mv.heap S o notW e
    show wpAny _ A.in1 (holding [Value.str k u] (setAdd S (.str k u)) >>= _) _ _ s1
    refine wpAny_bind (wpAny_holding ?_)
    unfold setAdd
    refine wpAny_holding (wpAny_bind ((PySem.strKind P w).pyHash (k := k) (is_str k u) ?_))
    refine SetS.put (s := { s1 with toks := s1.toks + 1 }) hS1 (by omega) fun b h' L' sb hS2 hL2 mem2 => ?_
    refine wpAny_pure ⟨plainId_quiet F.plain_set_update_loop _, ih (i + 1) _ (by omega) lt (W.frame _ s1 _ _ st1 (Nat.le_succ _) fun c hc o e => ?_) ⟨L', by omega, fun x => ?_, hS2⟩ fun s2 L2 mv2 hL3 mem3 hS3 => ?_⟩
    · rw [sb.2 c (fun z => far (z ▸ hc))]
      exact e
    · rw [mem2, mem, List.take_add_one, hk, List.mem_append]
      show _ ↔ _ ∨ x ∈ [k]
      rw [List.mem_singleton]
      exact Or.comm
    · refine fin s2 L2 (Moved.trans W.gtrans ((mv.mono wider).then_heap (Nat.le_succ _) fun c o hc e => ?_) mv2) hL3 mem3 hS3
      rw [sb.2 c (fun z => hc (z ▸ List.mem_cons_self))]
      exact e
end
end


end My
namespace My
open PySem PySem.Spec PyProof.Rows L2 TL
/-! ### set(x), x a tuple or a list of texts -/
section
variable {P : Program} {w : World} {A : Around} {E : Value → Shared → Prop} {s : Shared}
/-- set(x): what __init__ does with the new, empty set is left open -/
theorem set_call (a : Value) {Q : Value → Shared → Prop} {R : Shared → Prop} (init : codeAny (model P w) A.in1 (.call (.builtin "set.__init__") ⟨[.ref s.heap.objs.size, a], []⟩) (wants (fun r s2 => r = .none ∧ R s2) E) { s with heap := s.heap.push (freshSet w) }) (fin : ∀ s2, R s2 → Q (.ref s.heap.objs.size) s2) :
    wpAny (model P w) A (call (.type "set") [a]) Q E s := by
  obtain ⟨c, tl, hmro⟩ := F.called_set.mro
  have hmade := F.called_set.made
  have hsub := F.called_set.sub
  refine wpAny_call (codeAny_of_tree ?_)
  show wpAny _ _ (callAny (.type "set") _) _ _ _
  refine wpAny_pure ⟨Code.quiet_builtin _ (by decide +kernel), codeAny_builtin F.entry_type_call ?_⟩
  rw [Around.under_plain (weight_type_call_type "set" [a] []) rfl]
  have h1 := F.called_set.notType
  have h2 := F.called_set.canCreate
  have hct := F.typeCall_set_1 a
  repeat (any_goals (first | assumption | wp_step))
  refine codeAny_mono (code_set_led1 a (E := E) (Q₁ := fun obj s₁ => obj = .ref s.heap.objs.size ∧ s₁ = { s with heap := s.heap.push (freshSet w) }) ⟨rfl, rfl⟩) fun r s₁ hr => ?_
  match r, hr with
  | .error e, hr => exact hr
  | .ok .next, hr => exact hr.elim
  | .ok .brk, hr => exact hr.elim
  | .ok .cont, hr => exact hr.elim
  | .ok (.ret obj), hr =>
    obtain ⟨rfl, rfl⟩ := hr
    have hS : (s.heap.push (freshSet w)).get? s.heap.objs.size = some (freshSet w) := Heap.get?_push_size _ rfl
    have hT : Shared.TypeIs { s with heap := s.heap.push (freshSet w) } (.ref s.heap.objs.size) "set" := ⟨_, hS, rfl⟩
    have hli := F.called_set.init.lookup
    have hbi := F.called_set.init.bind (.ref s.heap.objs.size)
    repeat (any_goals (first | assumption | wp_step))
    refine codeAny_mono init fun r2 s2 hr2 => ?_
    match r2, hr2 with
    | .error e, hr2 => exact hr2
    | .ok .next, hr2 => exact hr2.elim
    | .ok .brk, hr2 => exact hr2.elim
    | .ok .cont, hr2 => exact hr2.elim
    | .ok (.ret v), hr2 =>
      obtain ⟨rfl, q⟩ := hr2
      repeat (any_goals (first | assumption | wp_step))
      exact fin _ q
theorem txt_at : ∀ {us : List Value} {ks : List Str}, StrsAre us ks → us.length = ks.length ∧ ∀ (i : Nat) (v : Value), us[i]? = some v → ∃ k u, ks[i]? = some k ∧ v = .str k u
  | _, _, .nil => ⟨rfl, fun i v h => (by simp at h)⟩
  | _, _, .cons n t r => by
    obtain ⟨l, g⟩ := txt_at r
    refine ⟨congrArg (· + 1) l, fun i v h => ?_⟩
    cases i with
    | zero => exact ⟨n, t, rfl, (Option.some.inj h).symm⟩
    | succ i => exact g i v h
/-- the walk over a tuple or a list puts its texts into the new set -/
theorem set_tup {l : Addr} {items : Array Value} {ks : List Str} {Q : Value → Shared → Prop} (hh : A.handled = none) (hl : s.heap.IsTuple l items) (hi : StrsAre items.toList ks) (few : ks.length + 1 < scanBound)
    (h : ∀ (h' : Heap) (tk : Nat) L, SetS P w h' s.heap.objs.size L → L.length ≤ ks.length → (∀ x, x ∈ L ↔ x ∈ ks) → (∀ b o, s.heap.get? b = some o → h'.get? b = some o) → Q (.ref s.heap.objs.size) { s with heap := h', toks := tk }) :
    wpAny (model P w) A (call (.type "set") [.ref l]) Q E s := by
  obtain ⟨⟨ocls, odict, odata, oslots⟩, hol, hcl, nl, hdl⟩ := hl
  simp only at hcl hdl
  subst hcl
  subst hdl
  have hS : (s.heap.push (freshSet w)).get? s.heap.objs.size = some (freshSet w) := Heap.get?_push_size _ rfl
  have hT : Shared.TypeIs { s with heap := s.heap.push (freshSet w) } (.ref s.heap.objs.size) "set" := ⟨_, hS, rfl⟩
  have hol' : (s.heap.push (freshSet w)).get? l = some { cls := .type "tuple", dict := odict, data := .seq items nl, slots := oslots } := Heap.get?_push_of_some _ hol
  have hl1 : (s.heap.push (freshSet w)).IsTuple l items := ⟨_, hol', rfl, nl, rfl⟩
  refine set_call (R := fun s2 => ∃ h' tk L, s2 = { s with heap := h', toks := tk } ∧ SetS P w h' s.heap.objs.size L ∧ L.length ≤ ks.length ∧ (∀ x, x ∈ L ↔ x ∈ ks) ∧ ∀ b o, s.heap.get? b = some o → h'.get? b = some o) (.ref l) (codeAny_call_builtin F.called_set.init.plain F.entry_set_init (check_set_init_1 hT ?_)) fun s2 ⟨h', tk, L, e, q1, q2, q3, q4⟩ => by rw [e]; exact h h' tk L q1 q2 q3 q4
  have hsls := F.sub_tuple_set
  have hslf := F.sub_tuple_frozenset
  have hne : (Value.type "tuple" == Value.type "dict") = false := by decide
  unfold Builtin.«set.__init__» noKeywords Builtin.Frozenset.updateFrom
  generalize hPI : pyIter = PI
  wp_walk
  subst hPI
  refine wpAny_pyIter_tuple hl1 ?_
  refine wpAny_bind (wpAny_runValue ?_)
  have hlS : l < s.heap.objs.size := Heap.lt_size hol
  have sz : (s.heap.push (freshSet w)).objs.size = s.heap.objs.size + 1 := Heap.size_push ..
  obtain ⟨ln, txt⟩ := txt_at hi
  rw [Array.length_toList] at ln
  refine put_texts ((Walks.tuple (by simp [hh]) _ l (by rw [sz]; exact Nat.ne_of_lt (Nat.lt_succ_of_lt hlS)) items).toS) s.heap.objs.size ?_ ks ln few (fun i v hv => txt i v (by rw [Array.getElem?_toList]; exact hv)) (items.size - 0) 0 _ (by omega) (Nat.zero_le _)
    ⟨⟨_, Heap.get?_push_size _ rfl, rfl, rfl⟩, hl1.push _⟩ ⟨[], Nat.le_refl _, fun x => by rw [List.take_zero], SetS.fresh (Heap.get?_push_of_some _ hS)⟩ fun s' L mv hL mem hS' => ?_
  · rw [sz]
    simp only [List.mem_cons, List.not_mem_nil, or_false, not_or]
    exact ⟨Nat.ne_of_lt (Nat.lt_succ_self _), Nat.ne_of_gt hlS⟩
  · obtain ⟨h', g2, d', tk', os'⟩ := s'
    have eg : g2 = s.gens := mv.gens
    have ed : d' = s.drawn := mv.drawn
    have eo : os' = s.os := mv.os
    subst eg
    subst ed
    subst eo
    show wpAny _ _ _ _ _ _
    refine wpAny_pure ?_
    show wpAny _ _ (ret Value.none) _ _ _
    refine wpAny_pure ⟨rfl, h', tk', L, rfl, hS', by omega, mem, fun b o e => ?_⟩
    have hb : b < s.heap.objs.size := Heap.lt_size e
    refine mv.heap b o ?_ (Heap.get?_push_of_some _ (Heap.get?_push_of_some _ e))
    simp only [List.mem_cons, List.not_mem_nil, or_false, not_or]
    exact ⟨Nat.ne_of_lt hb, by show b ≠ (s.heap.push (freshSet w)).objs.size; rw [sz]; exact Nat.ne_of_lt (Nat.lt_succ_of_lt hb)⟩
end


end My
namespace My
open PySem PySem.Spec PyProof.Rows L2 TL
/-! ### sorted(a set of texts); set and sorted as calls -/
section
open PySem.Froz
variable {P : Program} {w : World} {A : Around} {E : Value → Shared → Prop} {s : Shared}
theorem SetS.sorted {a : Addr} {L : List Str} {Q : Value → Shared → Prop} (R : SetS P w s.heap a L) (hh : A.handled = none) (h64 : L.length < 64)
    (h : ∀ s' p (out : Array Value) (c : Nat) (ys : List Str), (∀ b o, s.heap.get? b = some o → s'.heap.get? b = some o) → s'.gens = s.gens → s'.os = s.os → s.heap.objs.size ≤ p → s'.heap.get? p = some (seqObj "list" out c) →
      StrsAre out.toList ys → ys.Perm L → ys.Nodup → sortedS ys = true → Q (.ref p) s') : wpAny (model P w) A (call (.builtin "sorted") [.ref a]) Q E s := by
  obtain ⟨⟨es, ep, t⟩, ho, ok, nd, rows, str, ris, led⟩ := R
  have hsz : es.size = L.length := ok.sz
  refine Calls.call_function_entry kind_sorted plain_sorted entry_sorted (args_sorted1 _) ?_
  unfold Builtin.«sorted»
  refine wpAny_bind (m := checkCount "sorted" 1 1 _) (wpAny_pure ?_)
  refine wpAny_bind (collect_set (A := A.in1) hh ⟨_, ho, rfl, rfl⟩ ok.fit (by show es.size < scanBound; rw [hsz]; unfold scanBound; omega) ris led fun s1 vs k1 hz g1 o1 pm => ?_)
  have S0 : StrsAre vs (vs.map strOf) := strsAre_map vs fun v hv => str v (pm.mem_iff.mp hv)
  have pk : (vs.map strOf).Perm L := (pm.map strOf).trans rows
  have ln : vs.length = L.length := by rw [← pk.length_eq, List.length_map]
  refine wpAny_bind (wpAny_newList ?_ (by rw [ln, sizeLine_eq]; omega))
  have hoL : (s1.heap.push (seqObj "list" vs.toArray 0)).get? s1.heap.objs.size = some (seqObj "list" vs.toArray 0) := Heap.get?_push_size _ rfl
  refine wpAny_bind (wpAny_holding (wpAny_call_entry slot_list_sort ⟨_, hoL, rfl⟩ entry_list_sort
    (list_sort_treeK strKind_oneLt (s := { s1 with heap := s1.heap.push (seqObj "list" vs.toArray 0) }) hoL S0.keysOf (fun v₁ v₂ rest e => keyKind_strs (by rw [← e]; exact S0)) (by rw [ln]; exact h64) fun st' hp hs => ⟨_, rfl, ?_⟩) (args_list_sort _)))
  obtain ⟨ys, y1, y2, y3⟩ := sorted_out_str S0 hp hs
  obtain ⟨c, hc⟩ := sortedHeap_at (vs := vs) (out := (arrOf st').map (·.2)) hoL
  have pL := y2.trans pk
  refine wpAny_pure ⟨_, rfl, h _ s1.heap.objs.size _ c ys (fun b u e => ?_) g1 o1 hz hc y1 pL (pL.nodup_iff.mpr nd) y3⟩
  have e1 := k1 b u e
  have lt := Heap.lt_size e1
  show (sortedHeap (s1.heap.push (seqObj "list" vs.toArray 0)) s1.heap.objs.size vs _).get? b = some u
  rw [sortedHeap_old (Nat.ne_of_lt lt) (by rw [size_push']; exact Nat.lt_succ_of_lt lt)]
  exact Heap.get?_push_of_some _ e1
end
/-- the set of texts at a, in the drawn heap -/
def SetSO (P : Program) (w : World) (a : Addr) (L : List Str) : HO := .ext fun h => SetS P w h a L
theorem setSO_new {w : World} {P : Program} {H : Hp} {h : Heap} {a : Addr} {L : List Str} (R : SetS P w h a L) : ObjOk P w H h a (SetSO P w a L) := by
  have ⟨D, ho, _⟩ := R
  exact ⟨R, ⟨_, ho⟩, fun h1 h2 p k => SetS.at p k⟩
section
variable {X : Cx}
/-- set(x), x a tuple of texts -/
def rSetS (K : PySem.W.Frag) (P : Program) (w : World) : List V → Hp → VK → Prop := fun xs H Q => ∃ (l : Addr) (ks : List Str), xs = [V.ref l] ∧ SqT K H l (ks.map V.str) ∧ ks.length < 64 ∧
  ∀ a L, H a = none → L.length ≤ ks.length → (∀ x, x ∈ L ↔ x ∈ ks) → Q (.ref a) (upd H a (SetSO P w a L))
theorem cr_setS (hc : X.calm = true) : CallR X (.type "set") (rSetS X.K X.prog X.w) := by
  intro pins s σ H xs us Q I r h
  obtain ⟨l, ks, rfl, hl, hf, q⟩ := h
  rw [Vals.ref1 r]
  obtain ⟨its, rv, ⟨o, ho, hc1, n, hd⟩, hz⟩ := I.tuple hl
  refine set_tup (P := X.prog) (w := X.w) (ks := ks) (I.ok.hd hc) ⟨o, ho, hc1, n, hd⟩ (by simpa using strsAre_of rv) (by unfold scanBound; omega) fun h' tk L R hL mem k => ?_
  exact ⟨.ref s.heap.objs.size, upd H s.heap.objs.size (SetSO X.prog X.w s.heap.objs.size L), I.laid (t' := tk) k (Nat.le_refl _) (setSO_new R), rfl, q _ L (I.hok.fresh (Nat.le_refl _)) hL mem⟩
/-- sorted(x), x a set of fewer than 64 texts -/
def rSortS (P : Program) (w : World) : List V → Hp → VK → Prop := fun xs H Q => ∃ (a : Addr) (L : List Str), xs = [V.ref a] ∧ H a = some (SetSO P w a L) ∧ L.length < 64 ∧
  ∀ (ys : List Str) (p : Addr), ys.Perm L → ys.Nodup → sortedS ys = true → H p = none → Q (.ref p) (upd H p (.lst (ys.map V.str)))
theorem vals_strs : ∀ {us : List Value} {ys : List Str}, StrsAre us ys → Vals (ys.map V.str) us
  | _, _, .nil => .nil
  | _, _, .cons n t r => .cons ⟨t, rfl⟩ (vals_strs r)
theorem cr_sortS (hc : X.calm = true) : CallR X (.builtin "sorted") (rSortS X.prog X.w) := by
  intro pins s σ H vs us Q I r h
  obtain ⟨a, L, rfl, ha, h64, q⟩ := h
  rw [Vals.ref1 r]
  have R : SetS X.prog X.w s.heap a L := (I.hok a _ ha).1
  refine R.sorted (I.ok.hd hc) h64 fun s' p out c ys k g o hp hg hs pm nd so => ?_
  have hlen : (ys.map V.str).length ≤ sizeLine := by rw [List.length_map, pm.length_eq, sizeLine_eq]; omega
  have hn : H p = none := I.hok.fresh hp
  have J : Inv X pins σ (upd H p (.lst (ys.map V.str))) { s with heap := s'.heap, gens := s'.gens, drawn := s'.drawn, toks := s'.toks } :=
    I.call (ch := []) (Un.laid k hp hn) (I.hok.laid k hp ⟨hlen, out.toList, c, vals_strs hs, hg⟩) (by rw [g]; exact I.bare) (fun _ z => nomatch z)
  have e : s' = { s with heap := s'.heap, gens := s'.gens, drawn := s'.drawn, toks := s'.toks } := by
    cases s'
    cases s
    cases o
    rfl
  rw [e]
  exact ⟨.ref p, _, J, rfl, q ys p pm nd so hn⟩
end


end My
namespace My
open PySem PySem.Spec PyProof.Rows L2 TL
/-! ### set(x), x a list of texts -/
section
open PySem.Froz
variable {P : Program} {w : World} {A : Around} {E : Value → Shared → Prop} {s : Shared}
/-- the walk over a tuple or a list puts its texts into the new set -/
theorem set_lst {l : Addr} {items : Array Value} {ks : List Str} {Q : Value → Shared → Prop} (hh : A.handled = none) (hl : s.heap.IsList l items) (hi : StrsAre items.toList ks) (few : ks.length + 1 < scanBound)
    (h : ∀ (h' : Heap) (tk : Nat) L, SetS P w h' s.heap.objs.size L → L.length ≤ ks.length → (∀ x, x ∈ L ↔ x ∈ ks) → (∀ b o, s.heap.get? b = some o → h'.get? b = some o) → Q (.ref s.heap.objs.size) { s with heap := h', toks := tk }) :
    wpAny (model P w) A (call (.type "set") [.ref l]) Q E s := by
  obtain ⟨⟨ocls, odict, odata, oslots⟩, hol, hcl, ⟨nl, hdl⟩⟩ := hl
  simp only at hcl hdl
  subst hcl
  subst hdl
  have hS : (s.heap.push (freshSet w)).get? s.heap.objs.size = some (freshSet w) := Heap.get?_push_size _ rfl
  have hT : Shared.TypeIs { s with heap := s.heap.push (freshSet w) } (.ref s.heap.objs.size) "set" := ⟨_, hS, rfl⟩
  have hol' : (s.heap.push (freshSet w)).get? l = some { cls := .type "list", dict := odict, data := .seq items nl, slots := oslots } := Heap.get?_push_of_some _ hol
  have hl1 : (s.heap.push (freshSet w)).IsList l items := ⟨_, hol', rfl, nl, rfl⟩
  refine set_call (R := fun s2 => ∃ h' tk L, s2 = { s with heap := h', toks := tk } ∧ SetS P w h' s.heap.objs.size L ∧ L.length ≤ ks.length ∧ (∀ x, x ∈ L ↔ x ∈ ks) ∧ ∀ b o, s.heap.get? b = some o → h'.get? b = some o) (.ref l) (codeAny_call_builtin F.called_set.init.plain F.entry_set_init (check_set_init_1 hT ?_)) fun s2 ⟨h', tk, L, e, q1, q2, q3, q4⟩ => by rw [e]; exact h h' tk L q1 q2 q3 q4
  have hsls := F.sub_list_set
  have hslf := F.sub_list_frozenset
  have hne : (Value.type "list" == Value.type "dict") = false := by decide
  unfold Builtin.«set.__init__» noKeywords Builtin.Frozenset.updateFrom
  generalize hPI : pyIter = PI
  wp_walk
  subst hPI
  refine wpAny_pyIter_list hl1 ?_
  refine wpAny_bind (wpAny_runValue ?_)
  have hlS : l < s.heap.objs.size := Heap.lt_size hol
  have sz : (s.heap.push (freshSet w)).objs.size = s.heap.objs.size + 1 := Heap.size_push ..
  obtain ⟨ln, txt⟩ := txt_at hi
  rw [Array.length_toList] at ln
  refine put_texts ((Walks.list (by simp [hh]) _ l (by rw [sz]; exact Nat.ne_of_lt (Nat.lt_succ_of_lt hlS)) items).toS) s.heap.objs.size ?_ ks ln few (fun i v hv => txt i v (by rw [Array.getElem?_toList]; exact hv)) (items.size - 0) 0 _ (by omega) (Nat.zero_le _)
    ⟨⟨_, Heap.get?_push_size _ rfl, rfl, rfl⟩, hl1.push _⟩ ⟨[], Nat.le_refl _, fun x => by rw [List.take_zero], SetS.fresh (Heap.get?_push_of_some _ hS)⟩ fun s' L mv hL mem hS' => ?_
  · rw [sz]
    simp only [List.mem_cons, List.not_mem_nil, or_false, not_or]
    exact ⟨Nat.ne_of_lt (Nat.lt_succ_self _), Nat.ne_of_gt hlS⟩
  · obtain ⟨h', g2, d', tk', os'⟩ := s'
    have eg : g2 = s.gens := mv.gens
    have ed : d' = s.drawn := mv.drawn
    have eo : os' = s.os := mv.os
    subst eg
    subst ed
    subst eo
    show wpAny _ _ _ _ _ _
    refine wpAny_pure ?_
    show wpAny _ _ (ret Value.none) _ _ _
    refine wpAny_pure ⟨rfl, h', tk', L, rfl, hS', by omega, mem, fun b o e => ?_⟩
    have hb : b < s.heap.objs.size := Heap.lt_size e
    refine mv.heap b o ?_ (Heap.get?_push_of_some _ (Heap.get?_push_of_some _ e))
    simp only [List.mem_cons, List.not_mem_nil, or_false, not_or]
    exact ⟨Nat.ne_of_lt hb, by show b ≠ (s.heap.push (freshSet w)).objs.size; rw [sz]; exact Nat.ne_of_lt (Nat.lt_succ_of_lt hb)⟩
end
section
variable {X : Cx}
/-- set(x), x a tuple or a list of texts -/
def rSetE (K : PySem.W.Frag) (P : Program) (w : World) : List V → Hp → VK → Prop := fun xs H Q => ∃ (l : Addr) (ks : List Str), xs = [V.ref l] ∧ (SqT K H l (ks.map V.str) ∨ SqL K H l (ks.map V.str)) ∧ ks.length < 64 ∧
  ∀ a L, H a = none → L.length ≤ ks.length → (∀ x, x ∈ L ↔ x ∈ ks) → Q (.ref a) (upd H a (SetSO P w a L))
theorem cr_setE (hc : X.calm = true) : CallR X (.type "set") (rSetE X.K X.prog X.w) := by
  intro pins s σ H xs us Q I r h
  obtain ⟨l, ks, rfl, hl, hf, q⟩ := h
  rcases hl with hl | hl
  · exact cr_setS hc pins s σ H _ us Q I r ⟨l, ks, rfl, hl, hf, q⟩
  · rw [Vals.ref1 r]
    obtain ⟨its, rv, p, hz⟩ := I.list hl
    refine set_lst (P := X.prog) (w := X.w) (ks := ks) (I.ok.hd hc) p.isList (by simpa using strsAre_of rv) (by unfold scanBound; omega) fun h' tk L R hL mem k => ?_
    exact ⟨.ref s.heap.objs.size, upd H s.heap.objs.size (SetSO X.prog X.w s.heap.objs.size L), I.laid (t' := tk) k (Nat.le_refl _) (setSO_new R), rfl, q _ L (I.hok.fresh (Nat.le_refl _)) hL mem⟩
end


end My
namespace My
open PySem PySem.Spec PyProof.Rows L2 TL
/-! ### x in o, o of an own class; for x in o, o's __iter__ hands out iter(a tuple) -/
section
variable {X : Cx} {k : Nat} {f C : Addr} {ps : List Str} {sp : Sp}
def rInO (C : Addr) (sp : Sp) (neg : Bool) : R2 := fun y x H Q => ∃ a dx fs, x = .ref a ∧ H a = some (.ins C dx fs) ∧ sp [.ref a, y] H (fun v H' => ∃ c, v = .bl c ∧ Q (.bl (if neg then !c else c)) H') E0
theorem op_inO (c : MetC X.prog X.w X.K X.mg X.base C "__contains__" k ps sp) (room : Room k X.A) : OpR X (compareOp .In) (rInO C sp false) := by
  obtain ⟨f, fd, ok, M, hb⟩ := c.ex
  intro pins s σ H y x u v Q I ry rx h
  obtain ⟨a, dx, fs, rfl, ha, q⟩ := h
  cases rx
  obtain ⟨od, J⟩ := inst_at I ha
  obtain ⟨mm, fr⟩ := I.fr
  refine PySem.W.in_K fr I.ok.mod.kin J M.at_ M.fn (wpAny_mono (Runs.of ok room hb pass0 pins σ H s _ [.ref a, _] [.ref a, y] I (.cons rfl (.cons ry .nil)) q) (fun r s' z => ?_) fun _ _ z => z)
  obtain ⟨w', H', I', r', b, rfl, q'⟩ := z
  cases r'
  exact wpAny_truthy_bool ⟨.bl b, H', I', rfl, q'⟩
theorem op_notInO (c : MetC X.prog X.w X.K X.mg X.base C "__contains__" k ps sp) (room : Room k X.A) : OpR X (compareOp .NotIn) (rInO C sp true) := by
  obtain ⟨f, fd, ok, M, hb⟩ := c.ex
  intro pins s σ H y x u v Q I ry rx h
  obtain ⟨a, dx, fs, rfl, ha, q⟩ := h
  cases rx
  obtain ⟨od, J⟩ := inst_at I ha
  obtain ⟨mm, fr⟩ := I.fr
  refine PySem.W.notIn_K fr I.ok.mod.kin J M.at_ M.fn (wpAny_mono (Runs.of ok room hb pass0 pins σ H s _ [.ref a, _] [.ref a, y] I (.cons rfl (.cons ry .nil)) q) (fun r s' z => ?_) fun _ _ z => z)
  obtain ⟨w', H', I', r', b, rfl, q'⟩ := z
  cases r'
  exact wpAny_truthy_bool ⟨.bl (!b), H', I', rfl, q'⟩
end
/-- a tuple's iterator at its turn i -/
def TiO (l it : Addr) (i : Nat) : HO := .ext fun h => h.IsTupleIter it l i
theorem tiO_ok {P : Program} {w : World} {H : Hp} {h : Heap} {l it : Addr} {i : Nat} (e : h.IsTupleIter it l i) : ObjOk P w H h it (TiO l it i) := ⟨e, let ⟨_, ho, _⟩ := e; ⟨_, ho⟩, fun h1 h2 p k => p.at fun o q => k _ q⟩
section
variable {X : Cx}
def rIterT (K : PySem.W.Frag) (n : Nat) : List V → Hp → VK → Prop := fun xs H Q => ∃ (l : Addr) (zs : List V), xs = [.ref l] ∧ SqT K H l zs ∧ ∀ it, H it = none → n ≤ it → Q (.ref it) (upd H it (TiO l it 0))
theorem call_iterT : CallR X (.builtin "iter") (rIterT X.K X.s_0.heap.objs.size) := by
  intro pins s σ H xs us Q I r h
  obtain ⟨l, zs, rfl, hq, q⟩ := h
  obtain ⟨u, rfl, ru⟩ := vals1 r
  cases ru
  obtain ⟨its, rv, pl, hz⟩ := I.tuple hq
  refine Calls.call_function_entry (by decide +kernel) (by decide +kernel) PySem.W.kdk_entry_iter (PySem.W.kdk_args_iter _) ?_
  unfold Builtin.«iter»
  refine wpAny_bind (m := someArgs "iter" 1 2 _) (wpAny_of_eq (a := [Value.ref l]) (by first | rfl | kernel_rfl!) ?_)
  show wpAny _ _ (pyIter (.ref l) >>= _) _ _ _
  refine wpAny_bind (wpAny_pyIter_tuple (show s.heap.IsTuple l its.toArray from pl) ?_)
  refine wpAny_pure ⟨_, rfl, ?_⟩
  exact ⟨.ref s.heap.objs.size, _, I.laid (t' := s.toks) (fun b u e => Heap.get?_push_of_some _ e) (Nat.le_refl _) (tiO_ok ⟨_, Heap.get?_push_size _ rfl, rfl, rfl⟩), rfl, q _ (I.hok.fresh (Nat.le_refl _)) I.sz⟩
end
/-- a def whose promise knows how many objects there were when it was called -/
structure FnOkN (P : Program) (w : World) (K : PySem.W.Frag) (mg : Str → Option Value) (base : Heap) (CX : CXT) (k : Nat) (f : Addr) (fd : FuncData) (ps : List Str) (sp : Nat → Sp) : Prop where
  arity : ∀ n vs H Q E, sp n vs H Q E → vs.length = ps.length
  go : ∀ (B : Around) (fr : List Env) (t : Shared) (H : Hp) (ar : Args) (us : List Value) (vs : List V) (Q : VK) (E : XK), Room k B → Env0 P w K mg base B fr t H → BindsTo t fd ar (ps.zip us) → Vals vs us → sp t.heap.objs.size vs H Q E →
    codeAny (model P w) B (.call (.ref f) ar) (CR CX fr P w H t Q E) t
section
variable {P : Program} {w : World} {K : PySem.W.Frag} {mg : Str → Option Value} {base : Heap}
theorem _root_.L2.Fun.okN {CX : CXT} {x qual : Str} {st : Stmt} {f : Addr} {fd : FuncData} {N ps : List Str} {k : Nat} {sp : Nat → Sp} (F : Fun K x qual st f fd) (S : FnScope N ps (defScope st)) (ar : ∀ n vs H Q E, sp n vs H Q E → vs.length = ps.length)
    (body : ∀ (cv : Value) (B : Around) (fr : List Env) (t : Shared) (H : Hp) (vs : List V) (Q : VK) (E : XK), Room k (B.deeper (envOfC qual (defScope st) t.heap.objs.size f cv)) → sp t.heap.objs.size vs H Q E →
      ∃ r, PSs (cxOf CX P w K mg base N qual (defScope st) f cv B fr t H E).nox (defBody st) r ∧ r { nx := fun _ H' => Q .non H', rt := Q } (start N vs) H) : FnOkN P w K mg base CX (k + 1) f fd ps sp := by
  obtain ⟨oc, od, kV, doc, pm, an, cv, ct, osl, rfl, found, isCode⟩ := F.ex
  refine ⟨ar, fun B fr t H args us vs Q E room env binds vals wish => ?_⟩
  have there : K.In t.heap := env.mod.kin.keeps (fun b o e => (env.bs b o e).1)
  have noLim : t.heap.NoLimit := env.mod.nolimit.keeps (fun b o e => (env.bs b o e).1)
  have kinds : ∀ y ∈ ps.zip us, (defScope st).names.lookup y.1 = some .local ∨ ((defScope st).names.lookup y.1 = some .cell ∧ ((cellsFrom (t.heap.objs.size + 1) (defScope st).names []).lookup y.1).isSome = true) := by
    rintro ⟨n, v⟩ hy
    exact (S.par n (List.of_mem_zip hy).1).imp id fun q => ⟨q, PySem.W.cellsFrom_some _ _ _ (.inl q)⟩
  refine codeAny_call_function room.depth (there _ _ found)
    rfl S.co S.gen rfl (PySem.W.codeRec_of there isCode) (binds _ _ _ _
      (wpAny_newFunctionEnv_cells S.kind kinds fun env' eq t1 start1 => ?_))
  subst eq
  refine ⟨noLim.keeps start1.toInCall.keep, codeAny_func ?_⟩
  obtain ⟨r, runs, ends⟩ := body cv B fr t H vs Q E (room.deeper _) wish
  refine wpAny_mono (runs.nox.run [] t1 (start N vs) H _ (inv_start S room.hd env (ar _ _ _ _ _ wish) vals start1) ends) ?_ fun _ _ z => z
  intro fl t2 got
  cases fl with
  | ret u =>
    obtain ⟨v, σ', H', J, rv, q⟩ := got
    exact ⟨v, H', J.os, J.bare, J.base, J.hok, rv, q⟩
  | next =>
    obtain ⟨σ', H', J, q⟩ := got
    exact ⟨V.non, H', J.os, J.bare, J.base, J.hok, rfl, q⟩
  | brk => exact got.choose_spec.choose_spec.2.elim
  | cont => exact got.choose_spec.choose_spec.2.elim
end
structure MetN (P : Program) (w : World) (K : PySem.W.Frag) (mg : Str → Option Value) (base : Heap) (C : Addr) (m : Str) (k : Nat) (ps : List Str) (sp : Nat → Sp) : Prop where
  ex : ∃ f fd, FnOkN P w K mg base CX0 k f fd ps sp ∧ Meth K C m f ∧ Binds K fd ps []
section
variable {X : Cx} {k : Nat} {f C : Addr} {fd : FuncData} {ps : List Str} {sp : Nat → Sp} {ds : List Value} {dvs : List V} {E : XK} {CX : CXT} {tg l : Expr} {tl : TE}
theorem run_fnN {pins : List (Addr × Obj)} {σ : L2.St} {H : Hp} {s : Shared} {Q : VK} {us : List Value} {vs : List V} (F : FnOkN X.prog X.w X.K X.mg X.base CX k f fd ps sp) (room : Room k X.A)
    (binds : Binds X.K fd ps ds) (dv : Vals dvs ds) (pass : Passes CX X E) (I : Inv X pins σ H s) (rel : Vals vs us) (wish : sp s.heap.objs.size (vs ++ dvs) H Q E) : wpAny (model X.prog X.w) X.A (call (.ref f) us) (EP X pins σ Q) X.xe s := by
  have both := rel.append dv
  have len : (us ++ ds).length = ps.length := both.length.symm.trans (F.arity _ _ _ _ _ wish)
  have ran := F.go X.A X.stack s H ⟨us, []⟩ (us ++ ds) (vs ++ dvs) Q E room I.env0 (binds s us I.kIn len) both wish
  refine wpAny_call (codeAny_mono ran ?_)
  intro r s' h
  match r, h with
  | .error e, h => exact pass pins σ H s e s' I h
  | .ok (.ret u), h => exact I.after h
  | .ok .next, h => exact False.elim h
  | .ok .brk, h => exact False.elim h
  | .ok .cont, h => exact False.elim h
/-- for .. in e, e of an own class whose __iter__ hands out a tuple's new iterator -/
def iOwn (K : PySem.W.Frag) (C : Addr) (sp : Nat → Sp) (tl : TE) : TI := fun σ H R => tl σ H fun x H1 => ∃ a dx fs, x = .ref a ∧ H1 a = some (.ins C dx fs) ∧
  ∀ n, sp n [.ref a] H1 (fun v H2 => ∃ it l, v = .ref it ∧ n ≤ it ∧ H2 it = some (TiO l it 0) ∧ (∃ xs, SqT K (ItX.dropH H2 it) l xs) ∧ R (Itt K l) (ItX.dropH H2 it)) E0
theorem pi_own (c : MetN X.prog X.w X.K X.mg X.base C "__iter__" k ps sp) (room : Room k X.A) (hl : PE X l tl) : PI X tg l (iOwn X.K C sp tl) := by
  refine ⟨fun pins s σ H R I h => ?_⟩
  refine thn (hl.run pins s σ H _ I h) fun v s1 ⟨x, H1, I1, r1, q1⟩ => ?_
  obtain ⟨a, dx, fs, rfl, ha, q⟩ := q1
  cases r1
  obtain ⟨f, fd, ok, M, hb⟩ := c.ex
  obtain ⟨od, J⟩ := inst_at I1 ha
  obtain ⟨mm, fr⟩ := I1.fr
  refine PySem.W.owit_iter fr I1.ok.mod.kin J M.at_ M.fn ?_
  refine wpAny_mono (run_fnN (us := [.ref a]) (vs := [.ref a]) ok room hb .nil pass0 I1 (.cons rfl .nil) (by rw [List.append_nil]; exact q s1.heap.objs.size)) (fun u s' z => ?_) fun _ _ z => z
  obtain ⟨v, H2, I2, rv, it, l, rfl, hn, hit, hq, hR⟩ := z
  cases rv
  have st : s'.heap.IsTupleIter it l 0 := (I2.hok it _ hit).1
  unfold PySem.W.OwitIt
  refine wpAny_specialOf (let ⟨o, ho, hc, _⟩ := st; ⟨o, ho, hc⟩) F.slot_tuple_iterator_next.lookup ?_
  have hit' := hit
  unfold TiO at hit'
  refine ⟨it, [it], _, _, ItX.dropH H2 it, rfl, ItX.inv_drop I2 hit', turn_tuple l it, st, fun b hb => ?_, hR⟩
  have e : b = it := by simpa using hb
  rw [e]
  exact ItX.inv_fp I2 hit (Nat.le_trans I1.sz hn)
end


end My
namespace My
open PySem PySem.Spec PyProof.Rows L2 TL
set_option pp.maxSteps 3000
set_option pp.deepTerms false
/-! ### the class's smaller methods -/
theorem make_ty {K : PySem.W.Frag} {C : Addr} {H1 : Hp} {p : Addr} {rs : List V} {l : List Ty} {a : Str} {Q : VK} {E : XK} (hp : H1 p = some (.tup rs)) (hl : IsTs C H1 l rs) (fit : (Ty.mk l a).Fits) (q : ∀ x H', Same H1 H' → IsT C H' (.mk l a) (.ref x) → Q (.ref x) H') :
    ∀ x dx, H1 x = none → H1 dx = none → dx ≠ x → sp_Type___init__ K C (.ref x :: ([.ref p, .str a] ++ [])) (upd (upd H1 dx (.own x)) x (.ins C dx [])) (fun v H2 => v = .non ∧ Q (.ref x) H2) E := by
  intro x dx hx hdx ne
  have s : Same H1 (upd (upd H1 dx (.own x)) x (.ins C dx [])) := ((Same.refl H1).new hdx).new (by rw [upd_ne (Ne.symm ne)]; exact hx)
  refine ⟨x, dx, p, rs, l, a, rfl, upd_same, s _ _ hp, IsTs.same s l rs hl, fit, fun q' H' k e1 e2 => ?_⟩
  have s' : Same H1 H' := fun b o hb => k b o (ne_of_none hb hx) (s b o hb)
  refine ⟨rfl, q x H' s' ?_⟩
  rw [IsT]
  exact ⟨x, dx, p, q', rs, rfl, e1, s' _ _ hp, IsTs.same s' l rs hl, e2⟩
/-- what a making method hands out -/
def Made (C : Addr) (H : Hp) (Q : VK) (t : Ty) : Prop := ∀ x H', Same H H' → IsT C H' t (.ref x) → Q (.ref x) H'
def sp_is_integer (K : PySem.W.Frag) : Sp := fun vs H Q _ => ∃ i : Nat, vs = [.int i] ∧ i ≤ 1000 ∧ ∀ H', Same H H' → Q (.bl true) H'
def sp_Type_plain (K : PySem.W.Frag) (C : Addr) : Sp := fun vs H Q _ => ∃ a, vs = [.ref C, .str a] ∧ (Ty.mk [] a).Fits ∧ Made C H Q (.mk [] a)
def sp_Type___rshift__ (K : PySem.W.Frag) (C : Addr) : Sp := fun vs H Q _ => ∃ v u t o, vs = [v, u] ∧ IsT C H t v ∧ IsT C H o u ∧ (Ty.mk (t :: o.ins) o.atom).Fits ∧ Made C H Q (.mk (t :: o.ins) o.atom)
def sp_Type___mod__ (K : PySem.W.Frag) (C : Addr) : Sp := fun vs H Q _ => ∃ v t, ∃ n : Nat, vs = [v, .int n] ∧ IsT C H t v ∧ n ≤ t.ins.length ∧ t.Fits ∧ (Ty.mk (t.ins.drop n) t.atom).Fits ∧ Made C H Q (.mk (t.ins.drop n) t.atom)
def sp_Type___getitem__ (K : PySem.W.Frag) (C : Addr) : Sp := fun vs H Q _ => ∃ v t, ∃ n : Nat, vs = [v, .int n] ∧ IsT C H t v ∧ n < t.ins.length ∧ t.Fits ∧ ∀ s w H', Same H H' → t.ins[n]? = some s → IsT C H' s w → Q w H'
def sp_Type___len__ (K : PySem.W.Frag) (C : Addr) : Sp := fun vs H Q _ => ∃ v t, vs = [v] ∧ IsT C H t v ∧ t.Fits ∧ Q (.int (t.places.length : Nat)) H
def sp_Type___eq__ (K : PySem.W.Frag) (C : Addr) : Sp := fun vs H Q _ => ∃ v u t o, vs = [v, u] ∧ IsT C H t v ∧ IsT C H o u ∧ t.Fits ∧ o.Fits ∧ ∀ H', Same H H' → Q (.bl (decide (t.text = o.text))) H'
/-- the atoms in order -/
def IsAtoms (t : Ty) (ys : List Str) : Prop := ys.Nodup ∧ sortedS ys = true ∧ (∀ x, x ∈ ys ↔ x ∈ t.places) ∧ ys.length ≤ t.places.length
def sp_Type_atoms (K : PySem.W.Frag) (C : Addr) : Sp := fun vs H Q _ => ∃ v t, vs = [v] ∧ IsT C H t v ∧ t.Fits ∧ ∀ p ys H', Same H H' → H' p = some (.tup (ys.map V.str)) → IsAtoms t ys → Q (.ref p) H'
theorem IsTs.app {C : Addr} {H : Hp} : ∀ {l m : List Ty} {rs ss : List V}, IsTs C H l rs → IsTs C H m ss → IsTs C H (l ++ m) (rs ++ ss)
  | [], m, rs, ss, h, k => by
    rw [IsTs] at h
    rw [h]
    exact k
  | t :: r, m, rs, ss, h, k => by
    rw [IsTs] at h
    obtain ⟨w, ws, rfl, h1, h2⟩ := h
    rw [List.cons_append, IsTs]
    exact ⟨w, ws ++ ss, rfl, h1, IsTs.app h2 k⟩
theorem IsTs.drop {C : Addr} {H : Hp} : ∀ (n : Nat) {l : List Ty} {rs : List V}, IsTs C H l rs → IsTs C H (l.drop n) (rs.drop n)
  | 0, _, _, h => h
  | n + 1, [], rs, h => by
    rw [IsTs] at h
    rw [h, List.drop_nil, List.drop_nil, IsTs]
  | n + 1, t :: r, rs, h => by
    rw [IsTs] at h
    obtain ⟨w, ws, rfl, h1, h2⟩ := h
    exact IsTs.drop n h2
theorem IsTs.nil {C : Addr} {H : Hp} : IsTs C H [] [] := by rw [IsTs]
theorem IsTs.cons {C : Addr} {H : Hp} {t : Ty} {l : List Ty} {v : V} {rs : List V} (h : IsT C H t v) (k : IsTs C H l rs) : IsTs C H (t :: l) (v :: rs) := by
  rw [IsTs]
  exact ⟨v, rs, rfl, h, k⟩
theorem IsTs.len_eq {C : Addr} {H : Hp} {l : List Ty} {rs : List V} (h : IsTs C H l rs) : rs.length = l.length := h.len
theorem Fits_ins_len {t : Ty} (f : t.Fits) : t.ins.length ≤ 14 := by
  cases t with
  | mk i a =>
    have n := f.few
    rw [Ty.places, List.length_append] at n
    have := Ty.len_placesL i
    show i.length ≤ 14
    have e : [a].length = 1 := rfl
    omega
theorem cut_drop (xs : List V) (n : Nat) (h : n ≤ xs.length) : cutV xs (some (n : Int)) none = xs.drop n := by
  unfold cutV
  rw [HT.sIx_nat, HT.sIx_none, Nat.min_eq_left h]
  exact List.take_of_length_le (by rw [List.length_drop]; exact Nat.le_refl _)

namespace Ty
theorem mk_eta (t : Ty) : Ty.mk t.ins t.atom = t := by cases t; rfl
theorem places_of (t : Ty) : t.places = placesL t.ins ++ [t.atom] := by
  cases t with
  | mk l b => rw [places]; rfl
end Ty

section
variable {P : Program} {w : World} {K : PySem.W.Frag} {mg : Str → Option Value} {base : Heap} {C_Type : Addr}
theorem ok_Type___eq__ (T : Txt K mg C_Type) {f : Addr} {fd : FuncData} (F : Fun K "__eq__" "Type.__eq__" s_Type___eq__ f fd) : FnOk P w K mg base CX0 1 f fd ["self", "other"] (sp_Type___eq__ K C_Type) := by
  have nd := sc_Type___eq__.nd
  refine F.ok sc_Type___eq__ (fun vs H Q E h => ?_) (fun cdv A outer s H vs Q E hr h => ?_)
  · obtain ⟨v, u, t, o, rfl, _⟩ := h
    rfl
  · obtain ⟨v, u, t, o, rfl, ht, ho, ft, fo, q⟩ := h
    refine ⟨_, (pss_one (ps_ret (pe_and (pe_callB call_isi (by rfl) T.b_isinstance (by decide +kernel) (pa_cons (pv 1) (pa_cons (pe_glob (v := .ref C_Type) rfl T.c_Type rfl) pa_nil))) (pe_one (pe_cmpR op_eq (pe_fld (pv 0) rfl) (pe_fld (pv 1) rfl) (nomark _)))))), ?_⟩
    obtain ⟨b, dx, p, q', rs, rfl, hb, _⟩ := ht.at
    obtain ⟨bo, dxo, po, qo, rso, rfl, hbo, _⟩ := ho.at
    refine ⟨.ref bo, rfl, .ref bo, .ref C_Type, .ref C_Type, .ref C_Type, true, rfl, .own _, ty_of_ins T.k_Type T.x_Type hbo, kit_self _, true, rfl, iteT ?_⟩
    refine ⟨.ref b, rfl, b, C_Type, dx, _, .str t.text, rfl, hb, T.k_Type, T.x_Type.n_text, rfl, .ref bo, rfl, bo, C_Type, dxo, _, .str o.text, rfl, hbo, T.k_Type, T.x_Type.n_text, rfl, ?_⟩
    refine ⟨rfl, ?_⟩
    rw [show decide (V.str t.text = V.str o.text) = decide (t.text = o.text) by rw [Bool.eq_iff_iff]; simp]
    exact q H (Same.refl H)
end


end My
namespace My
open PySem PySem.Spec PyProof.Rows L2 TL
set_option pp.maxSteps 3000
set_option pp.deepTerms false
/-! ### what a list that changes leaves -/
/-- what no list's change touches -/
def Firm : HO → Prop
  | .tup _ => True
  | .ins _ _ fs => fs ≠ []
  | _ => False
def Held (H H' : Hp) : Prop := ∀ b o, H b = some o → Firm o → H' b = some o
mutual
theorem IsT.held {C : Addr} {H H' : Hp} (s : Held H H') : ∀ (t : Ty) (v : V), IsT C H t v → IsT C H' t v
  | .mk i a, v, h => by
    rw [IsT] at h ⊢
    obtain ⟨x, dx, p, q, rs, e, hx, hp, hi, hq⟩ := h
    exact ⟨x, dx, p, q, rs, e, s _ _ hx (fun z => nomatch z), s _ _ hp trivial, IsTs.held s i rs hi, s _ _ hq trivial⟩
theorem IsTs.held {C : Addr} {H H' : Hp} (s : Held H H') : ∀ (l : List Ty) (rs : List V), IsTs C H l rs → IsTs C H' l rs
  | [], rs, h => by
    rw [IsTs] at h ⊢
    exact h
  | t :: r, rs, h => by
    rw [IsTs] at h ⊢
    obtain ⟨v, vs, e, h1, h2⟩ := h
    exact ⟨v, vs, e, IsT.held s t v h1, IsTs.held s r vs h2⟩
end
theorem held_lst {H : Hp} {D : Addr} {xs : List V} {o : HO} (h : H D = some (.lst xs)) : Held H (upd H D o) := fun b u hb f => by
  rw [upd_ne (ne_of hb h (fun e => by rw [e] at f; exact f))]
  exact hb
theorem _root_.L2.Same.held {H H' : Hp} (s : Same H H') : Held H H' := fun b o h _ => s b o h

def Wd (a : Str) : Prop := isW (.str a) = true ∧ ∀ c ∈ a.cps.toList, c < 128

/-! ### what stands between the arrows -/
abbrev ARR : Str := " -> "
/-- the pieces, those begun, how deep -/
abbrev PSt := List Str × List Str × Int
def pStep (s : PSt) (p : Str) : PSt :=
  if s.2.2 + ((Txt.count p "(" : Int) - (Txt.count p ")" : Int)) = 0 then (s.1 ++ [Txt.join ARR (s.2.1 ++ [p])], [], s.2.2 + ((Txt.count p "(" : Int) - (Txt.count p ")" : Int)))
  else (s.1, s.2.1 ++ [p], s.2.2 + ((Txt.count p "(" : Int) - (Txt.count p ")" : Int)))
def pRun (ps : List Str) : PSt := ps.foldl pStep ([], [], 0)
def piecesOf (x : Str) : List Str := (pRun (Txt.split x ARR)).1 ++ if (pRun (Txt.split x ARR)).2.1 = [] then [] else [Txt.join ARR (pRun (Txt.split x ARR)).2.1]
/-- the text and its pieces are not too long -/
def Small (x : Str) : Prop := x.length ≤ 100000 ∧ (Txt.split x ARR).length ≤ 100000 ∧ ((Txt.split x ARR).map (·.length)).sum ≤ 100000
theorem pRun_next (ps : List Str) (p : Str) : pRun (ps ++ [p]) = pStep (pRun ps) p := by
  unfold pRun
  rw [List.foldl_append]
  rfl
theorem pRun_small : ∀ (n : Nat) (ps : List Str), ps.length = n → ((pRun ps).2.1.map (·.length)).sum ≤ (ps.map (·.length)).sum ∧ (pRun ps).2.1.length ≤ ps.length ∧ (pRun ps).1.length ≤ ps.length
  | 0, ps, h => by
    rw [List.length_eq_zero_iff.mp h]
    exact ⟨Nat.le_refl _, Nat.le_refl _, Nat.le_refl _⟩
  | n + 1, ps, h => by
    obtain ⟨qs, p, rfl⟩ : ∃ qs p, ps = qs ++ [p] := ⟨ps.dropLast, ps.getLast (fun e => by rw [e] at h; cases h), (List.dropLast_concat_getLast _).symm⟩
    rw [List.length_append] at h
    obtain ⟨a, b, c⟩ := pRun_small n qs (Nat.succ.inj h)
    rw [pRun_next]
    unfold pStep
    split
    · simp only [List.map_append, List.sum_append, List.length_append, List.map_nil, List.sum_nil, List.length_nil, List.length_cons, List.map_cons, List.sum_cons]
      omega
    · simp only [List.map_append, List.sum_append, List.length_append, List.map_nil, List.sum_nil, List.length_nil, List.length_cons, List.map_cons, List.sum_cons]
      omega
theorem sum_take (ps : List Str) (i : Nat) : ((ps.take i).map (·.length)).sum ≤ (ps.map (·.length)).sum := by
  have e : (ps.map (·.length)).sum = ((ps.take i).map (·.length)).sum + ((ps.drop i).map (·.length)).sum := by
    rw [← List.sum_append, ← List.map_append, List.take_append_drop]
  omega
def sp__pieces (_ : PySem.W.Frag) : Sp := fun vs H Q _ => ∃ x, vs = [.str x] ∧ Small x ∧ ∀ p H', Same H H' → H' p = some (.lst ((piecesOf x).map V.str)) → Q (.ref p) H'
section
variable {P : Program} {w : World} {K : PySem.W.Frag} {mg : Str → Option Value} {base : Heap} {C_Type : Addr}
theorem ok__pieces (T : Txt K mg C_Type) {f : Addr} {fd : FuncData} (F : Fun K "_pieces" "_pieces" s__pieces f fd) : FnOk P w K mg base CX0 1 f fd ["text"] (sp__pieces K) := by
  have nd := sc__pieces.nd
  refine F.ok sc__pieces (fun vs H Q E h => ?_) (fun cdv A outer s H vs Q E hr h => ?_)
  · obtain ⟨x, rfl, _⟩ := h
    rfl
  · obtain ⟨x, rfl, ⟨x1, x2, x3⟩, q⟩ := h
    refine ⟨_, (pss_cons (ps_set (i := 1) nd rfl (.inl rfl) (pe_lst pa_nil))
      (pss_cons (ps_set (i := 2) nd rfl (.inl rfl) (pe_lst pa_nil))
      (pss_cons (ps_set (i := 3) nd rfl (.inl rfl) pe_int)
      (pss_cons (ps_for PassesOwn.never rfl (pi_list (pe_split (pv 0) (pe_globE rfl T.g__ARROW))) (pg_name (i := 4) nd rfl (.inl rfl)) (pss_cons (ps_expr (pe_bm PySem.F.plainAttrs_list PySem.F.slot_list_append PySem.F.type_list_append mt_append (pv 2) (pa_cons (pv 4) pa_nil)))
      (pss_cons (ps_aug (i := 3) nd rfl (.inl rfl) (pe_op op_sub (pe_m1 PySem.F.slot_str_count PySem.F.type_str_count mt_count (pv 4) pe_str) (pe_m1 PySem.F.slot_str_count PySem.F.type_str_count mt_count (pv 4) pe_str)) ip_add)
      (pss_one (ps_if (pt_cmpR op_eq (pv 3) pe_int (nomark _)) (pss_cons (ps_expr (pe_bm PySem.F.plainAttrs_list PySem.F.slot_list_append PySem.F.type_list_append mt_append (pv 1) (pa_cons (pe_join (pe_globE rfl T.g__ARROW) (pv 2)) pa_nil)))
      (pss_one (ps_set (i := 2) nd rfl (.inl rfl) (pe_lst pa_nil)))) pss_nil)))))
      (pss_cons (ps_if (pt_truth (pv 2) (by intro _; rfl)) (pss_one (ps_expr (pe_bm PySem.F.plainAttrs_list PySem.F.slot_list_append PySem.F.type_list_append mt_append (pv 1) (pa_cons (pe_join (pe_globE rfl T.g__ARROW) (pv 2)) pa_nil)))) pss_nil)
      (pss_one (ps_ret (pv 1)))))))), ?_⟩
    refine ⟨Nat.zero_le _, fun dp hdp => ?_⟩
    refine ⟨Nat.zero_le _, fun db hdb => ?_⟩
    refine asg_go2 ?_
    dsimp only
    have nE : db ≠ dp := fun e => by
      rw [e, upd_same] at hdb
      cases hdb
    change gName 3 (V.int 0) _ _ _
    refine asg_go2 ?_
    dsimp only
    refine ⟨.str x, rfl, ⟨x, rfl⟩, x, ARR, rfl, rfl, by decide +kernel, lt_line (by omega), fun ds hds => ?_⟩
    refine ⟨ds, rfl, ⟨_, SqL.of upd_same⟩, ?_⟩
    have s0 : Same H (upd (upd (upd H dp (.lst [])) db (.lst [])) ds (.lst ((Txt.split x ARR).map V.str))) := (((Same.refl H).new hdp).new hdb).new hds
    have h1 : upd (upd (upd H dp (.lst [])) db (.lst [])) ds (.lst ((Txt.split x ARR).map V.str)) dp = some (.lst []) := by
      have e : upd (upd H dp (.lst [])) db (.lst []) dp = some (.lst []) := by rw [upd_ne (Ne.symm nE), upd_same]
      rw [upd_ne (ne_of_none e hds)]
      exact e
    have h2 : upd (upd (upd H dp (.lst [])) db (.lst [])) ds (.lst ((Txt.split x ARR).map V.str)) db = some (.lst []) := by
      rw [upd_ne (ne_of_none upd_same hds), upd_same]
    have n1 : ds ≠ dp := fun e => by
      rw [e, upd_ne (Ne.symm nE), upd_same] at hds
      cases hds
    have n2 : ds ≠ db := fun e => by
      rw [e, upd_same] at hds
      cases hds
    have h3 : upd (upd (upd H dp (.lst [])) db (.lst [])) ds (.lst ((Txt.split x ARR).map V.str)) ds = some (.lst ((Txt.split x ARR).map V.str)) := upd_same
    generalize upd (upd (upd H dp (.lst [])) db (.lst [])) ds (.lst ((Txt.split x ARR).map V.str)) = G at s0 h1 h2 h3 ⊢
    have nb : H db = none := by
      rw [upd_ne nE] at hdb
      exact hdb
    clear hds hdb
    generalize eps : Txt.split x ARR = ps at h3 x2 x3 ⊢
    refine for_list (xs := ps.map V.str) (fun i σ H' => ∃ db s4, σ = [some (.str x), some (.ref dp), some (.ref db), some (.int (pRun (ps.take i)).2.2), s4] ∧ H' dp = some (.lst ((pRun (ps.take i)).1.map V.str)) ∧ H' db = some (.lst ((pRun (ps.take i)).2.1.map V.str)) ∧
      db ≠ dp ∧ ds ≠ db ∧ H db = none ∧ H' ds = some (.lst (ps.map V.str)) ∧ Same H H') ?_ (fun i σ H' _ hP => ?_) (fun i y σ H' hy hP => ?_) (fun σ H' hP => ?_)
    · exact ⟨db, none, rfl, h1, h2, nE, n2, nb, h3, s0⟩
    · obtain ⟨_, _, _, _, _, _, _, _, e, _⟩ := hP
      exact SqL.of e
    · obtain ⟨db', s4, rfl, hp1, hb1, ne1, ne2, fr, hs1, sm⟩ := hP
      rw [List.getElem?_map] at hy
      obtain ⟨pc, hpc, rfl⟩ := Option.map_eq_some_iff.mp hy
      have io := lt_of_get hpc
      obtain ⟨z1, z2, z3⟩ := pRun_small _ (ps.take i) rfl
      have z4 := sum_take ps i
      rw [List.length_take] at z2 z3
      have nx := pRun_next (ps.take i) pc
      rw [← take_next hpc] at nx
      generalize pRun (ps.take i) = S at hp1 hb1 z1 z2 z3 nx ⊢
      refine asg_go2 ?_
      dsimp only
      refine ⟨.ref db', rfl, .inl ⟨rfl, _, SqL.of hb1⟩, .str pc, rfl, db', _, _, rfl, rfl, hb1, lt_line' (by rw [List.length_map]; omega), ?_⟩
      dsimp only
      refine ⟨.int S.2.2, rfl, .str pc, rfl, ⟨pc, rfl⟩, pc, "(", rfl, rfl, .str pc, rfl, ⟨pc, rfl⟩, pc, ")", rfl, rfl, _, _, rfl, rfl, _, _, rfl, rfl, ?_⟩
      dsimp only
      have hp2 : upd H' db' (.lst (S.2.1.map V.str ++ [V.str pc])) dp = some (.lst (S.1.map V.str)) := by rw [upd_ne (Ne.symm ne1)]; exact hp1
      have hs2 : upd H' db' (.lst (S.2.1.map V.str ++ [V.str pc])) ds = some (.lst (ps.map V.str)) := by rw [upd_ne ne2]; exact hs1
      have hb2 : upd H' db' (.lst (S.2.1.map V.str ++ [V.str pc])) db' = some (.lst ((S.2.1 ++ [pc]).map V.str)) := by rw [upd_same, List.map_append]; rfl
      have sm2 := sm.mut (o := .lst (S.2.1.map V.str ++ [V.str pc])) fr
      generalize upd H' db' (.lst (S.2.1.map V.str ++ [V.str pc])) = G2 at hp2 hs2 hb2 sm2 ⊢
      unfold pStep at nx
      refine ⟨.int (S.2.2 + (Txt.count pc "(" - Txt.count pc ")")), rfl, rfl, _, rfl, ite2 (fun c => ?_) (fun c => ?_)⟩
      · have c0 : S.2.2 + (Txt.count pc "(" - Txt.count pc ")") = 0 := V.int.inj (of_decide_eq_true c)
        rw [if_pos c0] at nx
        have zs : (((S.2.1 ++ [pc]).map (·.length)).sum + (S.2.1 ++ [pc]).length * ARR.length) ≤ 16777216 := by
          have e1 : ARR.length = 4 := by decide +kernel
          have e2 : ((ps.take (i + 1)).map (·.length)).sum = ((ps.take i).map (·.length)).sum + pc.length := by
            rw [take_next hpc, List.map_append, List.sum_append]
            rfl
          have e3 := sum_take ps (i + 1)
          rw [e1, List.map_append, List.sum_append, List.length_append]
          show _ + (pc.length + 0) + (_ + 1) * 4 ≤ _
          omega
        refine ⟨.ref dp, rfl, .inl ⟨rfl, _, SqL.of hp2⟩, ⟨_, rfl⟩, .ref db', rfl, ARR, db', S.2.1 ++ [pc], rfl, rfl, .inl (SqL.of hb2), zs, dp, _, _, rfl, rfl, hp2, lt_line' (by rw [List.length_map]; omega), ?_⟩
        refine ⟨Nat.zero_le _, fun db2 hdb2 => ?_⟩
        refine asg_go2 ?_
        have d2 : db2 ≠ dp := fun e => by
          rw [e, upd_same] at hdb2
          cases hdb2
        have d3 : G2 db2 = none := by
          rw [upd_ne d2] at hdb2
          exact hdb2
        have d4 : ds ≠ db2 := fun e => by
          rw [← e, hs2] at d3
          cases d3
        refine ⟨db2, some (.str pc), ?_, ?_, ?_, d2, d4, sm2.free d3, ?_, (sm2.mut hdp).new hdb2⟩
        · rw [nx]
          rfl
        · rw [nx, upd_ne (Ne.symm d2), upd_same, List.map_append]
          rfl
        · rw [nx, upd_same]
          rfl
        · rw [upd_ne d4, upd_ne n1]
          exact hs2
      · have c0 : ¬ S.2.2 + (Txt.count pc "(" - Txt.count pc ")") = 0 := fun e => c (by rw [e]; exact decide_eq_true rfl)
        rw [if_neg c0] at nx
        refine nx_go ?_
        refine ⟨db', some (.str pc), ?_, ?_, ?_, ne1, ne2, fr, hs2, sm2⟩
        · rw [nx]
          rfl
        · rw [nx]
          exact hp2
        · rw [nx]
          exact hb2
    · obtain ⟨db', s4, rfl, hp1, hb1, ne1, ne2, fr, hs1, sm⟩ := hP
      rw [List.length_map, List.take_length] at hp1 hb1 ⊢
      have ep : piecesOf x = (pRun ps).1 ++ if (pRun ps).2.1 = [] then [] else [Txt.join ARR (pRun ps).2.1] := by
        unfold piecesOf
        rw [eps]
      obtain ⟨z1, z2, z3⟩ := pRun_small _ ps rfl
      generalize pRun ps = S at hp1 hb1 z1 z2 z3 ep ⊢
      dsimp only
      refine ⟨.ref db', rfl, _, .inl ⟨_, SqL.of hb1, rfl⟩, ?_⟩
      cases hS : S.2.1 with
      | nil =>
        rw [hS, if_pos rfl, List.append_nil] at ep
        refine iteF ?_
        refine nx_go ?_
        dsimp only
        rw [← ep] at hp1
        exact ⟨.ref dp, rfl, q dp _ sm hp1⟩
      | cons a l =>
        rw [if_neg (by rw [hS]; exact fun e => nomatch e)] at ep
        refine iteT ?_
        have e1 : ARR.length = 4 := by decide +kernel
        refine ⟨.ref dp, rfl, .inl ⟨rfl, _, SqL.of hp1⟩, ⟨_, rfl⟩, .ref db', rfl, ARR, db', S.2.1, rfl, rfl, .inl (SqL.of hb1), by rw [e1]; omega, dp, _, _, rfl, rfl, hp1, lt_line' (by rw [List.length_map]; omega), ?_⟩
        dsimp only
        refine ⟨.ref dp, rfl, q dp _ (sm.mut hdp) ?_⟩
        rw [upd_same, ep, List.map_append]
        rfl
end


end My
namespace My
open PySem PySem.Spec PyProof.Rows L2 TL
set_option pp.maxSteps 3000
set_option pp.deepTerms false
/-! ### a type read from its text -/
def inner (p : Str) : Str := cutS p (some 1) (some (-1))
theorem cut_last (xs : List V) (v : V) : cutV (xs ++ [v]) none (some (-1)) = xs := by
  unfold cutV
  have l : (xs ++ [v]).length = xs.length + 1 := by rw [List.length_append]; rfl
  have e : HT.sIx (xs ++ [v]).length (xs ++ [v]).length (some (-1)) = xs.length := by
    unfold HT.sIx
    rw [l]
    dsimp only
    rw [if_pos (by decide)]
    omega
  rw [e, HT.sIx_none, List.drop_zero, Nat.sub_zero, List.take_append_of_le_length (Nat.le_refl _), List.take_length]
mutual
/-- the text is read as the type, nested no deeper -/
inductive Reads : Nat → Str → Ty → Prop
  | mk {d : Nat} {x a : Str} {qs : List Str} {l : List Ty} (sm : Small x) (pc : piecesOf x = qs ++ [a]) (rl : ReadsL d qs l) (fit : (Ty.mk l a).Fits) : Reads d x (.mk l a)
/-- a piece is read as the type -/
inductive ReadsP : Nat → Str → Ty → Prop
  | open_ {d : Nat} {p : Str} {t : Ty} (len : p.length ≤ 100000) (s : Txt.startswith p "(" = true) (e : Txt.endswith p ")" = true) (r : Reads d (inner p) t) : ReadsP (d + 1) p t
  | plain {d : Nat} {p : Str} (h : d = 0 ∨ Txt.startswith p "(" = false ∨ Txt.endswith p ")" = false) (fit : (Ty.mk [] p).Fits) : ReadsP d p (.mk [] p)
inductive ReadsL : Nat → List Str → List Ty → Prop
  | nil {d : Nat} : ReadsL d [] []
  | cons {d : Nat} {p : Str} {qs : List Str} {t : Ty} {l : List Ty} (r : ReadsP d p t) (rl : ReadsL d qs l) : ReadsL d (p :: qs) (t :: l)
end
theorem ReadsL.len : ∀ {d : Nat} {qs : List Str} {l : List Ty}, ReadsL d qs l → qs.length = l.length
  | _, _, _, .nil => rfl
  | _, _, _, .cons _ rl => congrArg (· + 1) (ReadsL.len rl)
theorem ReadsL.get : ∀ {d : Nat} {qs : List Str} {l : List Ty} {i : Nat} {p : Str}, ReadsL d qs l → qs[i]? = some p → ∃ t, l[i]? = some t ∧ ReadsP d p t
  | _, _, _, _, _, .nil, e => by cases e
  | _, _, _, 0, _, .cons r _, e => by cases e; exact ⟨_, rfl, r⟩
  | _, _, _, i + 1, _, .cons _ rl, e => ReadsL.get (i := i) rl e


end My
namespace My
open PySem PySem.Spec PyProof.Rows L2 TL
set_option pp.maxSteps 3000
theorem Ty.places_at (t : Ty) : t.places = Ty.placesL t.ins ++ [t.atom] := Ty.places_of t

/-! ### each type that fits is read from its text -/
theorem lp_eq : ("(" : Str) = ⟨#[40]⟩ := by decide +kernel
theorem rp_eq : (")" : Str) = ⟨#[41]⟩ := by decide +kernel
def dep (p : Str) : Int := PyProof.Rows.cnt 40 p.cps.toList - PyProof.Rows.cnt 41 p.cps.toList
theorem dep_is (p : Str) : (Txt.count p "(" : Int) - (Txt.count p ")" : Int) = dep p := by
  rw [lp_eq, rp_eq, PyProof.Rows.count_cnt, PyProof.Rows.count_cnt]
  rfl
theorem list_app (p q : Str) : (p ++ q).cps.toList = p.cps.toList ++ q.cps.toList := tl_append p q
theorem dep_app (p q : Str) : dep (p ++ q) = dep p + dep q := by
  unfold dep
  rw [list_app, PyProof.Rows.cnt_append, PyProof.Rows.cnt_append]
  omega
theorem dep_lp : dep "(" = 1 := by decide +kernel
theorem dep_rp : dep ")" = -1 := by decide +kernel
theorem word_not {a : Str} (h : isW (.str a) = true) {c : Nat} (hc : ¬ (97 ≤ c ∧ c ≤ 122)) : c ∉ a.cps.toList := fun hm => by
  rw [isW_str, Bool.and_eq_true] at h
  have := List.all_eq_true.mp h.2 c hm
  unfold isLow at this
  rw [Bool.and_eq_true, decide_eq_true_eq, decide_eq_true_eq] at this
  exact hc this
theorem dep_word {a : Str} (h : isW (.str a) = true) : dep a = 0 := by
  unfold dep
  rw [PyProof.Rows.cnt_none 40 _ (word_not h (by omega)), PyProof.Rows.cnt_none 41 _ (word_not h (by omega))]
  rfl
def sumD : List Str → Int
  | [] => 0
  | p :: r => dep p + sumD r
theorem sumD_app : ∀ ps qs : List Str, sumD (ps ++ qs) = sumD ps + sumD qs
  | [], qs => by show sumD qs = 0 + sumD qs; omega
  | p :: r, qs => by
    show dep p + sumD (r ++ qs) = dep p + sumD r + sumD qs
    rw [sumD_app r qs]
    omega
theorem run_pos : ∀ (qs P B : List Str) (d : Int), qs ≠ [] → (∀ k, 0 < k → k < qs.length → d + sumD (qs.take k) ≠ 0) → d + sumD qs = 0 → qs.foldl pStep (P, B, d) = (P ++ [Txt.join ARR (B ++ qs)], [], 0)
  | [], _, _, _, h, _, _ => absurd rfl h
  | [p], P, B, d, _, _, t => by
    have e : d + dep p = 0 := by
      have : d + (dep p + 0) = 0 := t
      omega
    show pStep (P, B, d) p = _
    unfold pStep
    dsimp only
    rw [dep_is, if_pos e, e]
  | p :: q :: r, P, B, d, _, h, t => by
    have ne : d + dep p ≠ 0 := by
      have := h 1 (by decide) (by simp)
      intro z
      refine this ?_
      show d + (dep p + 0) = 0
      omega
    have st : pStep (P, B, d) p = (P, B ++ [p], d + dep p) := by
      unfold pStep
      dsimp only
      rw [dep_is, if_neg ne]
    have ih := run_pos (q :: r) P (B ++ [p]) (d + dep p) (List.cons_ne_nil _ _) (fun k k0 kl => by
      have := h (k + 1) (Nat.succ_pos _) (Nat.succ_lt_succ kl)
      intro z
      refine this ?_
      show d + (dep p + sumD ((q :: r).take k)) = 0
      omega) (by
      have : d + (dep p + sumD (q :: r)) = 0 := t
      omega)
    show (q :: r).foldl pStep (pStep (P, B, d) p) = _
    rw [st, ih, List.append_assoc]
    rfl
def Bal (ps : List Str) : Prop := (∀ k, 0 ≤ sumD (ps.take k)) ∧ sumD ps = 0
def PosL (ps : List Str) : Prop := ps ≠ [] ∧ (∀ k, 0 < k → k < ps.length → 0 < sumD (ps.take k)) ∧ sumD ps = 0
theorem PosL.bal {ps : List Str} (h : PosL ps) : Bal ps := by
  refine ⟨fun k => ?_, h.2.2⟩
  by_cases k0 : k = 0
  · rw [k0, List.take_zero]
    exact Int.le_refl 0
  · by_cases kl : k < ps.length
    · exact Int.le_of_lt (h.2.1 k (by omega) kl)
    · rw [List.take_of_length_le (by omega), h.2.2]
      exact Int.le_refl 0
theorem Bal.app {ps qs : List Str} (h : Bal ps) (g : Bal qs) : Bal (ps ++ qs) := by
  refine ⟨fun k => ?_, by rw [sumD_app, h.2, g.2]; rfl⟩
  rw [List.take_append, sumD_app]
  have := h.1 k
  have := g.1 (k - ps.length)
  omega
theorem Bal.nil : Bal [] := ⟨fun k => by rw [List.take_nil]; exact Int.le_refl 0, rfl⟩
theorem pos_one {a : Str} (h : dep a = 0) : PosL [a] := ⟨List.cons_ne_nil _ _, fun k k0 kl => absurd kl (by simp; omega), by show dep a + 0 = 0; omega⟩
def closeL : List Str → List Str
  | [] => []
  | [p] => [p ++ (")" : Str)]
  | p :: q :: r => p :: closeL (q :: r)
def wrapL : List Str → List Str
  | [] => []
  | p :: r => closeL ((("(" : Str) ++ p) :: r)
theorem close_ne {p : Str} {r : List Str} : closeL (p :: r) ≠ [] := by
  cases r with
  | nil => exact List.cons_ne_nil _ _
  | cons q r => exact List.cons_ne_nil _ _
theorem close_len : ∀ ps : List Str, (closeL ps).length = ps.length
  | [] => rfl
  | [p] => rfl
  | p :: q :: r => congrArg (· + 1) (close_len (q :: r))
theorem close_take : ∀ (ps : List Str) (k : Nat), k < ps.length → sumD ((closeL ps).take k) = sumD (ps.take k)
  | [], _, h => by cases h
  | [p], k, h => by
    have : k = 0 := by
      have : k < 1 := h
      omega
    rw [this, List.take_zero, List.take_zero]
  | p :: q :: r, 0, _ => rfl
  | p :: q :: r, k + 1, h => by
    show dep p + sumD ((closeL (q :: r)).take k) = dep p + sumD ((q :: r).take k)
    rw [close_take (q :: r) k (Nat.lt_of_succ_lt_succ h)]
theorem close_sum : ∀ (p : Str) (r : List Str), sumD (closeL (p :: r)) = sumD (p :: r) - 1
  | p, [] => by
    show dep (p ++ (")" : Str)) + 0 = dep p + 0 - 1
    rw [dep_app, dep_rp]
    omega
  | p, q :: r => by
    show dep p + sumD (closeL (q :: r)) = dep p + sumD (q :: r) - 1
    rw [close_sum q r]
    omega
theorem Bal.wrap {ps : List Str} (ne : ps ≠ []) (h : Bal ps) : PosL (wrapL ps) := by
  cases ps with
  | nil => exact absurd rfl ne
  | cons p r =>
    refine ⟨close_ne, fun k k0 kl => ?_, ?_⟩
    · have kl' : k < (p :: r).length := by
        have : k < (closeL ((("(" : Str) ++ p) :: r)).length := kl
        rw [close_len] at this
        exact this
      show 0 < sumD ((closeL ((("(" : Str) ++ p) :: r)).take k)
      rw [close_take ((("(" : Str) ++ p) :: r) k kl']
      obtain ⟨j, rfl⟩ : ∃ j, k = j + 1 := ⟨k - 1, by omega⟩
      have b := h.1 (j + 1)
      have b : 0 ≤ dep p + sumD (r.take j) := b
      show 0 < dep (("(" : Str) ++ p) + sumD (r.take j)
      rw [dep_app, dep_lp]
      omega
    · show sumD (closeL ((("(" : Str) ++ p) :: r)) = 0
      rw [close_sum]
      have b : dep p + sumD r = 0 := h.2
      show dep (("(" : Str) ++ p) + sumD r - 1 = 0
      rw [dep_app, dep_lp]
      omega
theorem glue_close : ∀ (p : Str) (r : List Str), glueL (closeL (p :: r)) = glueL (p :: r) ++ [41]
  | p, [] => by
    show (p ++ (")" : Str)).cps.toList = p.cps.toList ++ [41]
    rw [list_app, rp_eq]
  | p, q :: r => by
    have ih := glue_close q r
    have : ∃ y s, closeL (q :: r) = y :: s := by
      cases h : closeL (q :: r) with
      | nil => exact absurd h close_ne
      | cons y s => exact ⟨y, s, rfl⟩
    obtain ⟨y, s, e⟩ := this
    show glueL (p :: closeL (q :: r)) = (p.cps.toList ++ ([32, 45, 62, 32] ++ glueL (q :: r))) ++ [41]
    rw [e] at ih ⊢
    show p.cps.toList ++ ([32, 45, 62, 32] ++ glueL (y :: s)) = _
    rw [ih]
    simp only [List.append_assoc]
theorem glue_open (p : Str) (r : List Str) : glueL ((("(" : Str) ++ p) :: r) = 40 :: glueL (p :: r) := by
  cases r with
  | nil =>
    show (("(" : Str) ++ p).cps.toList = 40 :: p.cps.toList
    rw [list_app, lp_eq]
    rfl
  | cons q r =>
    show (("(" : Str) ++ p).cps.toList ++ _ = 40 :: (p.cps.toList ++ _)
    rw [list_app, lp_eq]
    rfl
theorem join_wrap {ps : List Str} (ne : ps ≠ []) : Txt.join ARW (wrapL ps) = ("(" : Str) ++ Txt.join ARW ps ++ (")" : Str) := by
  cases ps with
  | nil => exact absurd rfl ne
  | cons p r =>
    refine str_list ?_
    rw [join_glueL, list_app, list_app, join_glueL, lp_eq, rp_eq]
    show glueL (closeL ((("(" : Str) ++ p) :: r)) = _
    rw [glue_close, glue_open]
    rfl
theorem glue_app : ∀ ps qs : List Str, ps ≠ [] → qs ≠ [] → glueL (ps ++ qs) = glueL ps ++ ([32, 45, 62, 32] ++ glueL qs)
  | [], _, h, _ => absurd rfl h
  | [p], qs, _, h => by
    cases qs with
    | nil => exact absurd rfl h
    | cons q r => rfl
  | p :: q :: r, qs, _, h => by
    have ih := glue_app (q :: r) qs (List.cons_ne_nil _ _) h
    show p.cps.toList ++ ([32, 45, 62, 32] ++ glueL ((q :: r) ++ qs)) = (p.cps.toList ++ ([32, 45, 62, 32] ++ glueL (q :: r))) ++ _
    rw [ih]
    simp only [List.append_assoc]
theorem close_mem : ∀ (ps : List Str) {x : Str}, x ∈ closeL ps → x ∈ ps ∨ ∃ p ∈ ps, x = p ++ (")" : Str)
  | [], _, h => by cases h
  | [p], x, h => .inr ⟨p, List.mem_singleton.mpr rfl, List.mem_singleton.mp h⟩
  | p :: q :: r, x, h => by
    rcases List.mem_cons.mp h with e | h
    · exact .inl (e ▸ List.mem_cons_self ..)
    · rcases close_mem (q :: r) h with k | ⟨z, hz, e⟩
      · exact .inl (List.mem_cons_of_mem _ k)
      · exact .inr ⟨z, List.mem_cons_of_mem _ hz, e⟩
def NoGt (ps : List Str) : Prop := ∀ p ∈ ps, 62 ∉ p.cps.toList
theorem NoGt.wrap {ps : List Str} (h : NoGt ps) : NoGt (wrapL ps) := by
  cases ps with
  | nil => exact h
  | cons p r =>
    have h1 : NoGt ((("(" : Str) ++ p) :: r) := fun x hx => by
      rcases List.mem_cons.mp hx with rfl | hx
      · rw [list_app, lp_eq]
        intro m
        rcases List.mem_append.mp m with m | m
        · exact absurd (List.mem_singleton.mp m) (by decide)
        · exact h p (List.mem_cons_self ..) m
      · exact h x (List.mem_cons_of_mem _ hx)
    intro x hx
    rcases close_mem _ hx with k | ⟨z, hz, rfl⟩
    · exact h1 x k
    · rw [list_app, rp_eq]
      intro m
      rcases List.mem_append.mp m with m | m
      · exact h1 z hz m
      · exact absurd (List.mem_singleton.mp m) (by decide)
namespace Ty
mutual
def flat : Ty → List Str
  | .mk i a => flatL i ++ [a]
def flatL : List Ty → List Str
  | [] => []
  | t :: r => (if t.ins.isEmpty then flat t else wrapL (flat t)) ++ flatL r
end
theorem flat_ne (t : Ty) : t.flat ≠ [] := by
  cases t with
  | mk i a =>
    rw [flat]
    exact List.append_ne_nil_of_right_ne_nil _ (List.cons_ne_nil _ _)
def piece (t : Ty) : List Str := if t.ins.isEmpty then flat t else wrapL (flat t)
theorem flatL_cons (t : Ty) (r : List Ty) : flatL (t :: r) = piece t ++ flatL r := by rw [flatL]; rfl
theorem flat_at (t : Ty) : t.flat = flatL t.ins ++ [t.atom] := by
  cases t with
  | mk i a => rw [flat]; rfl
theorem NoGt_app {ps qs : List Str} (h : NoGt ps) (g : NoGt qs) : NoGt (ps ++ qs) := fun x hx => by
  rcases List.mem_append.mp hx with k | k
  · exact h x k
  · exact g x k
mutual
theorem flat_ok : ∀ t : Ty, t.words → Bal t.flat ∧ NoGt t.flat
  | .mk i a, w => by
    have wa := (w a (by rw [places]; exact List.mem_append_right _ (List.mem_singleton.mpr rfl))).1
    obtain ⟨h1, h2⟩ := flatL_ok i fun b hb => w b (by rw [places]; exact List.mem_append_left _ hb)
    rw [flat]
    exact ⟨h1.app (pos_one (dep_word wa)).bal, NoGt_app h2 fun x hx => by
      rw [List.mem_singleton.mp hx]
      exact word_not wa (by omega)⟩
theorem flatL_ok : ∀ l : List Ty, (∀ a ∈ placesL l, isW (.str a) = true ∧ ∀ c ∈ a.cps.toList, c < 128) → Bal (flatL l) ∧ NoGt (flatL l)
  | [], _ => by
    rw [flatL]
    exact ⟨Bal.nil, fun _ h => by cases h⟩
  | t :: r, w => by
    rw [placesL_cons] at w
    obtain ⟨h1, h2⟩ := flat_ok t fun b hb => w b (List.mem_append_left _ hb)
    obtain ⟨h3, h4⟩ := flatL_ok r fun b hb => w b (List.mem_append_right _ hb)
    rw [flatL_cons, piece]
    by_cases c : t.ins.isEmpty = true
    · rw [if_pos c]
      exact ⟨h1.app h3, NoGt_app h2 h4⟩
    · rw [if_neg c]
      exact ⟨(Bal.wrap (flat_ne t) h1).bal.app h3, NoGt_app h2.wrap h4⟩
end
theorem piece_pos (t : Ty) (w : t.words) : PosL t.piece := by
  rw [piece]
  by_cases c : t.ins.isEmpty = true
  · rw [if_pos c, flat_at, List.isEmpty_iff.mp c, flatL]
    exact pos_one (dep_word (w t.atom (by rw [places_at]; exact List.mem_append_right _ (List.mem_singleton.mpr rfl))).1)
  · rw [if_neg c]
    exact Bal.wrap (flat_ne t) (flat_ok t w).1
theorem piece_ne (t : Ty) : t.piece ≠ [] := by
  rw [piece]
  by_cases c : t.ins.isEmpty = true
  · rw [if_pos c]
    exact flat_ne t
  · rw [if_neg c]
    have := flat_ne t
    cases h : t.flat with
    | nil => exact absurd h this
    | cons p r => exact close_ne
mutual
theorem text_flat : ∀ t : Ty, t.text = Txt.join ARW t.flat
  | .mk i a => by
    rw [text, flat]
    refine str_list ?_
    rw [join_glueL, join_glueL]
    exact glue_flatL i a
theorem glue_flatL : ∀ (l : List Ty) (a : Str), glueL (insideL l ++ [a]) = glueL (flatL l ++ [a])
  | [], a => by rw [insideL, flatL]
  | t :: r, a => by
    have e : (inside t).cps.toList = glueL (piece t) := by
      rw [inside, piece]
      by_cases c : t.ins.isEmpty = true
      · rw [if_pos c, if_pos c, text_flat t, join_glueL]
      · rw [if_neg c, if_neg c, text_flat t, ← join_wrap (flat_ne t), join_glueL]
    have ei : insideL (t :: r) = inside t :: insideL r := by rw [insideL, inside]
    rw [ei, flatL_cons, List.append_assoc, glue_app _ _ (piece_ne t) (List.append_ne_nil_of_right_ne_nil _ (List.cons_ne_nil _ _)), ← glue_flatL r a, ← e]
    show glueL ([inside t] ++ (insideL r ++ [a])) = _
    rw [glue_app _ _ (List.cons_ne_nil _ _) (List.append_ne_nil_of_right_ne_nil _ (List.cons_ne_nil _ _))]
    rfl
end
theorem inside_piece (t : Ty) : Txt.join ARW t.piece = t.inside := by
  rw [inside, piece]
  by_cases c : t.ins.isEmpty = true
  · rw [if_pos c, if_pos c, text_flat t]
  · rw [if_neg c, if_neg c, text_flat t, join_wrap (flat_ne t)]
theorem fold_flatL : ∀ (l : List Ty) (P : List Str), (∀ a ∈ placesL l, isW (.str a) = true ∧ ∀ c ∈ a.cps.toList, c < 128) → (flatL l).foldl pStep (P, [], 0) = (P ++ insideL l, [], 0)
  | [], P, _ => by rw [flatL, insideL, List.append_nil]; rfl
  | t :: r, P, w => by
    rw [placesL_cons] at w
    have hp := piece_pos t fun b hb => w b (List.mem_append_left _ hb)
    have ei : insideL (t :: r) = inside t :: insideL r := by rw [insideL, inside]
    have st := run_pos t.piece P [] 0 hp.1 (fun k k0 kl => by have := hp.2.1 k k0 kl; omega) (by rw [hp.2.2]; rfl)
    rw [flatL_cons, List.foldl_append, st, fold_flatL r _ fun b hb => w b (List.mem_append_right _ hb), ei, List.nil_append]
    show ((P ++ [Txt.join ARW t.piece]) ++ insideL r, [], 0) = _
    rw [inside_piece, List.append_assoc]
    rfl
theorem pieces_text (t : Ty) (w : t.words) : piecesOf t.text = insideL t.ins ++ [t.atom] := by
  have sp : Txt.split t.text ARR = t.flat := by
    rw [text_flat t]
    exact split_join (flat_ne t) (flat_ok t w).2
  have wa := (w t.atom (by rw [places_at]; exact List.mem_append_right _ (List.mem_singleton.mpr rfl))).1
  have run : pRun t.flat = (insideL t.ins ++ [t.atom], [], 0) := by
    unfold pRun
    rw [flat_at, List.foldl_append, fold_flatL t.ins [] (fun b hb => w b (by rw [places_at]; exact List.mem_append_left _ hb)), List.nil_append,
      run_pos [t.atom] (insideL t.ins) [] 0 (List.cons_ne_nil _ _) (fun k k0 kl => absurd kl (by simp; omega)) (by show 0 + (dep t.atom + 0) = 0; rw [dep_word wa]; rfl)]
    refine congrArg (fun z => (insideL t.ins ++ [z], ([] : List Str), (0 : Int))) ?_
    refine str_list ?_
    rw [List.nil_append]
    exact join_glueL [t.atom]
  unfold piecesOf
  rw [sp, run]
  simp
end Ty
theorem sum_le (ps : List Str) : (ps.map (·.length)).sum ≤ (Txt.join ARW ps).length := by
  rw [join_len]
  exact Nat.le_add_right _ _
namespace Ty
theorem plain_text (a : Str) : (Ty.mk [] a).text = a := by
  rw [text_flat, flat, flatL, List.nil_append]
  refine str_list ?_
  rw [join_glueL]
  rfl
theorem len_sum : ∀ ps : List Str, ps.length ≤ (Txt.join ARW ps).length + 1
  | [] => Nat.zero_le _
  | p :: r => by
    rw [join_len, arw_len]
    show r.length + 1 ≤ _ + (r.length + 1 - 1) * 4 + 1
    omega
theorem small_text {t : Ty} (f : t.Fits) : Small t.text := by
  have l := Ty.text_small f.words f.few
  have sp : Txt.split t.text ARR = t.flat := by
    rw [text_flat t]
    exact split_join (flat_ne t) (flat_ok t f.words).2
  have e := text_flat t
  refine ⟨by omega, ?_, ?_⟩
  · rw [sp]
    have := len_sum t.flat
    rw [← e] at this
    omega
  · rw [sp]
    have := sum_le t.flat
    rw [← e] at this
    omega
theorem inner_text (x : Str) : inner (("(" : Str) ++ x ++ (")" : Str)) = x := by
  unfold inner cutS
  refine str_list ?_
  have hl : (("(" : Str) ++ x ++ (")" : Str)).cps.toList = 40 :: (x.cps.toList ++ [41]) := by
    rw [list_app, list_app, lp_eq, rp_eq]
    rfl
  have n : (("(" : Str) ++ x ++ (")" : Str)).length = x.cps.toList.length + 2 := by
    show (("(" : Str) ++ x ++ (")" : Str)).cps.size = _
    rw [← Array.length_toList, hl, List.length_cons, List.length_append]
    rfl
  have s1 : HT.sIx (x.cps.toList.length + 2) 0 (some 1) = 1 := by
    unfold HT.sIx
    dsimp only
    rw [if_neg (by decide)]
    show min 1 (x.cps.toList.length + 2) = 1
    omega
  have s2 : HT.sIx (x.cps.toList.length + 2) (x.cps.toList.length + 2) (some (-1)) = x.cps.toList.length + 1 := by
    unfold HT.sIx
    dsimp only
    rw [if_pos (by decide)]
    omega
  rw [n, s1, s2, hl]
  show ((40 :: (x.cps.toList ++ [41])).drop 1).take (x.cps.toList.length + 1 - 1) = x.cps.toList
  rw [List.drop_one, List.tail_cons, Nat.add_sub_cancel, List.take_left]
theorem readsL_of {d : Nat} : ∀ l : List Ty, (∀ u ∈ l, ReadsP d u.inside u) → ReadsL d (insideL l) l
  | [], _ => by
    rw [insideL]
    exact .nil
  | u :: r, h => by
    have ei : insideL (u :: r) = inside u :: insideL r := by rw [insideL, inside]
    rw [ei]
    exact .cons (h u (List.mem_cons_self ..)) (readsL_of r fun z hz => h z (List.mem_cons_of_mem _ hz))
theorem word_plain {a : Str} (h : isW (.str a) = true) : Txt.startswith a "(" = false := by
  cases e : Txt.startswith a "(" with
  | false => rfl
  | true =>
    unfold Txt.startswith at e
    rw [Bool.and_eq_true] at e
    have m := e.2
    rw [StrLaws.subAt_eq, lp_eq] at m
    have m := eq_of_beq m
    rw [List.drop_zero] at m
    have m : a.cps.toList.take 1 = [40] := m
    have : 40 ∈ a.cps.toList := List.mem_of_mem_take (by rw [m]; exact List.mem_singleton.mpr rfl)
    exact absurd this (word_not h (by omega))
/-- each type that fits is read from its text -/
theorem reads_text : ∀ (n : Nat) (t : Ty), t.places.length ≤ n → t.Fits → ∀ d, t.order ≤ d → Reads d t.text t
  | 0, t, h, _, _, _ => absurd (places_pos t) (by omega)
  | n + 1, t, h, f, d, lo => by
    have eta : t = .mk t.ins t.atom := by cases t; rfl
    have ft' : (Ty.mk t.ins t.atom).Fits := eta ▸ f
    have r : ReadsL d (insideL t.ins) t.ins := readsL_of t.ins fun u hu => by
      have fu := ft'.ins hu
      have lu : u.order + 1 ≤ d := by
        have h1 := low_ins hu
        have h2 : t.order = orderL t.ins := by cases t; rw [order]; rfl
        omega
      have l1 : u.places.length ≤ (placesL t.ins).length := few_ins hu
      have l2 : t.places.length = (placesL t.ins).length + 1 := by rw [places_at, List.length_append]; rfl
      by_cases c : u.ins.isEmpty = true
      · have eu : u = .mk [] u.atom := by
          rw [← List.isEmpty_iff.mp c]
          cases u
          rfl
        have et : u.inside = u.atom := by
          rw [inside, if_pos c, eu, plain_text]
          rfl
        have wa := (fu.words u.atom (by rw [places_at]; exact List.mem_append_right _ (List.mem_singleton.mpr rfl))).1
        rw [et]
        have := ReadsP.plain (d := d) (p := u.atom) (.inr (.inl (word_plain wa))) (eu ▸ fu)
        rw [← eu] at this
        exact this
      · obtain ⟨e, rfl⟩ : ∃ e, d = e + 1 := ⟨d - 1, by omega⟩
        have et : u.inside = ("(" : Str) ++ u.text ++ (")" : Str) := by rw [inside, if_neg c]
        rw [et]
        refine .open_ ?_ ?_ ?_ ?_
        · have l := text_small fu.words fu.few
          rw [app_len, app_len]
          have h1 : (("(" : Str)).length = 1 := by decide +kernel
          have h2 : ((")" : Str)).length = 1 := by decide +kernel
          omega
        · rw [PySem.W.KAf.starts_left (by rw [app_len]; have h1 : (("(" : Str)).length = 1 := by decide +kernel
                                          omega)]
          exact PySem.W.KT.starts_app _ _
        · exact PySem.W.KT.ends_app _ _
        · rw [inner_text]
          exact reads_text n u (by omega) fu e (by omega)
    have m := Reads.mk (small_text f) (pieces_text t f.words) r ft'
    rw [← eta] at m
    exact m
end Ty

/-! ### any text: its pieces, and what they are read as -/
/-- the text has plain signs only, and few -/
def Plain (n : Nat) (x : Str) : Prop := x.length ≤ n ∧ ∀ c ∈ x.cps.toList, c < 128
theorem split_ne (x : Str) : Txt.split x ARW ≠ [] := fun e => by
  have j := StrLaws.join_split x ARW
  rw [e] at j
  have hx : x.length = 0 := by rw [← j]; rfl
  unfold Txt.split at e
  rw [if_pos (by rw [hx, arw_len]; rfl)] at e
  cases e
theorem split_glue (x : Str) : glueL (Txt.split x ARW) = x.cps.toList := by
  rw [← join_glueL]
  have e : Txt.join ARW (Txt.split x ARW) = Str.join ARW (Txt.split x ARW) := StrLaws.glued_eq_join _ _
  rw [e, StrLaws.join_split]
/-- pieces that stand in the text -/
theorem glue_bounds : ∀ ps : List Str, (ps.map (·.length)).sum + 4 * (ps.length - 1) = (glueL ps).length ∧ ∀ p ∈ ps, ∀ c ∈ p.cps.toList, c ∈ glueL ps
  | [] => ⟨rfl, fun p hp => by cases hp⟩
  | [p] => ⟨by
      rw [glueL]
      show p.length + 0 + 4 * 0 = _
      have : p.cps.toList.length = p.length := (len_tl p).symm
      omega, fun q hq c hc => by
      rw [List.mem_singleton.mp hq] at hc
      exact hc⟩
  | p :: q :: r => by
    obtain ⟨a, b⟩ := glue_bounds (q :: r)
    refine ⟨?_, fun z hz c hc => ?_⟩
    · rw [glueL, List.length_append, List.length_append, ← a]
      have : p.cps.toList.length = p.length := (len_tl p).symm
      simp only [List.map_cons, List.sum_cons, List.length_cons, List.length_nil]
      omega
    · rw [glueL]
      rcases List.mem_cons.mp hz with rfl | hz
      · exact List.mem_append_left _ hc
      · exact List.mem_append_right _ (List.mem_append_right _ (b z hz c hc))
theorem glue_joined (P B : List Str) (h : B ≠ []) : glueL (P ++ [Txt.join ARW B]) = glueL (P ++ B) := by
  have e : glueL [Txt.join ARW B] = glueL B := by
    rw [← join_glueL B]
    rfl
  cases P with
  | nil => exact e
  | cons p r => rw [glue_app _ _ (List.cons_ne_nil _ _) (List.cons_ne_nil _ _), glue_app _ _ (List.cons_ne_nil _ _) h, e]
theorem run_glue : ∀ (n : Nat) (ps : List Str), ps.length = n → glueL ((pRun ps).1 ++ (pRun ps).2.1) = glueL ps ∧ ((pRun ps).1 ++ (pRun ps).2.1 = [] ↔ ps = [])
  | 0, ps, h => by
    rw [List.length_eq_zero_iff.mp h]
    exact ⟨rfl, fun _ => rfl, fun _ => rfl⟩
  | n + 1, ps, h => by
    obtain ⟨qs, p, rfl⟩ : ∃ qs p, ps = qs ++ [p] := ⟨ps.dropLast, ps.getLast (fun e => by rw [e] at h; cases h), (List.dropLast_concat_getLast _).symm⟩
    rw [List.length_append] at h
    obtain ⟨a, b⟩ := run_glue n qs (Nat.succ.inj h)
    rw [pRun_next]
    generalize pRun qs = S at a b ⊢
    have key : glueL ((S.1 ++ S.2.1) ++ [p]) = glueL (qs ++ [p]) := by
      by_cases z : S.1 ++ S.2.1 = []
      · rw [z, b.mp z]
      · have zq : qs ≠ [] := fun e => z (b.mpr e)
        rw [glue_app _ _ z (List.cons_ne_nil _ _), glue_app _ _ zq (List.cons_ne_nil _ _), a]
    unfold pStep
    split
    · refine ⟨?_, fun e => absurd e (by simp), fun e => absurd e (by simp)⟩
      · show glueL ((S.1 ++ [Txt.join ARW (S.2.1 ++ [p])]) ++ []) = _
        rw [List.append_nil, glue_joined _ _ (by simp), ← List.append_assoc]
        exact key
    · refine ⟨?_, fun e => absurd e (by simp), fun e => absurd e (by simp)⟩
      · show glueL (S.1 ++ (S.2.1 ++ [p])) = _
        rw [← List.append_assoc]
        exact key
/-- the pieces, put together, are the text -/
theorem pieces_glue (x : Str) : glueL (piecesOf x) = x.cps.toList ∧ piecesOf x ≠ [] := by
  obtain ⟨a, b⟩ := run_glue _ (Txt.split x ARW) rfl
  have n := split_ne x
  rw [← split_glue x, ← a]
  unfold piecesOf
  have ne : (pRun (Txt.split x ARW)).1 ++ (pRun (Txt.split x ARW)).2.1 ≠ [] := fun e => n (b.mp e)
  show glueL ((pRun (Txt.split x ARW)).1 ++ if (pRun (Txt.split x ARW)).2.1 = [] then [] else [Txt.join ARW (pRun (Txt.split x ARW)).2.1]) = _ ∧ ((pRun (Txt.split x ARW)).1 ++ if (pRun (Txt.split x ARW)).2.1 = [] then [] else [Txt.join ARW (pRun (Txt.split x ARW)).2.1]) ≠ []
  generalize pRun (Txt.split x ARW) = S at ne ⊢
  by_cases z : S.2.1 = []
  · rw [if_pos z, z]
    rw [z] at ne
    exact ⟨rfl, ne⟩
  · rw [if_neg z]
    exact ⟨glue_joined _ _ z, by simp⟩
theorem le_sum : ∀ {l : List Nat} {n : Nat}, n ∈ l → n ≤ l.sum
  | m :: r, n, h => by
    rw [List.sum_cons]
    rcases List.mem_cons.mp h with rfl | h
    · omega
    · have := le_sum h
      omega
theorem pieces_few {n : Nat} {x : Str} (h : Plain n x) : (piecesOf x).length ≤ n / 4 + 1 ∧ ∀ p ∈ piecesOf x, Plain n p := by
  obtain ⟨e, ne⟩ := pieces_glue x
  obtain ⟨a, b⟩ := glue_bounds (piecesOf x)
  rw [e] at a b
  have hx : x.cps.toList.length = x.length := (len_tl x).symm
  have h1 := h.1
  refine ⟨by omega, fun p hp => ⟨?_, fun c hc => h.2 c (b p hp c hc)⟩⟩
  have : p.length ≤ ((piecesOf x).map (·.length)).sum := le_sum (List.mem_map_of_mem hp)
  omega
theorem small_plain {n : Nat} {x : Str} (h : Plain n x) (hn : n ≤ 10000) : Small x := by
  obtain ⟨a, -⟩ := glue_bounds (Txt.split x ARW)
  rw [split_glue] at a
  have hx : x.cps.toList.length = x.length := (len_tl x).symm
  have h1 := h.1
  exact ⟨by omega, by show (Txt.split x ARW).length ≤ _; omega, by show ((Txt.split x ARW).map (·.length)).sum ≤ _; omega⟩
theorem plain_inner {n : Nat} {x : Str} (h : Plain n x) : Plain n (inner x) := by
  have e : (inner x).cps.toList = (x.cps.toList.drop (HT.sIx x.length 0 (some 1))).take (HT.sIx x.length x.length (some (-1)) - HT.sIx x.length 0 (some 1)) := by
    unfold inner cutS
    rfl
  refine ⟨?_, fun c hc => ?_⟩
  · have l : (inner x).length = (inner x).cps.toList.length := len_tl _
    have hx : x.cps.toList.length = x.length := (len_tl x).symm
    have h1 := h.1
    rw [l, e, List.length_take, List.length_drop]
    omega
  · rw [e] at hc
    exact h.2 c (List.mem_of_mem_drop (List.mem_of_mem_take hc))
mutual
theorem Reads.det : ∀ {d : Nat} {x : Str} {t u : Ty}, Reads d x t → Reads d x u → t = u
  | _, _, _, _, .mk _ p1 l1 _, .mk _ p2 l2 _ => by
    rw [p1] at p2
    obtain ⟨e1, e2⟩ := List.append_inj' p2 rfl
    cases e2
    subst e1
    rw [ReadsL.det l1 l2]
theorem ReadsP.det : ∀ {d : Nat} {x : Str} {t u : Ty}, ReadsP d x t → ReadsP d x u → t = u
  | _, _, _, _, .open_ _ _ _ r1, .open_ _ _ _ r2 => Reads.det r1 r2
  | _, _, _, _, .plain _ _, .plain _ _ => rfl
  | _, _, _, _, .open_ _ s e _, .plain h _ => by
    rcases h with h | h | h
    · cases h
    · rw [s] at h; cases h
    · rw [e] at h; cases h
  | _, _, _, _, .plain h _, .open_ _ s e _ => by
    rcases h with h | h | h
    · cases h
    · rw [s] at h; cases h
    · rw [e] at h; cases h
theorem ReadsL.det : ∀ {d : Nat} {qs : List Str} {l m : List Ty}, ReadsL d qs l → ReadsL d qs m → l = m
  | _, _, _, _, .nil, .nil => rfl
  | _, _, _, _, .cons r1 l1, .cons r2 l2 => by rw [ReadsP.det r1 r2, ReadsL.det l1 l2]
end
theorem ReadsL.app {d : Nat} {p : Str} {t : Ty} (r : ReadsP d p t) : ∀ {qs : List Str} {l : List Ty}, ReadsL d qs l → ReadsL d (qs ++ [p]) (l ++ [t])
  | _, _, .nil => .cons r .nil
  | _, _, .cons r1 l1 => .cons r1 (ReadsL.app r l1)
theorem Reads.fits : ∀ {d : Nat} {x : Str} {t : Ty}, Reads d x t → t.Fits
  | _, _, _, .mk _ _ _ f => f
theorem ReadsP.fits : ∀ {d : Nat} {x : Str} {t : Ty}, ReadsP d x t → t.Fits
  | _, _, _, .open_ _ _ _ r => r.fits
  | _, _, _, .plain _ f => f


end My
namespace My
open PySem PySem.Spec PyProof.Rows L2 TL
set_option pp.maxSteps 3000
/-! ### the law's own reader, plainly -/
abbrev ARWL : List Nat := [32, 45, 62, 32]
def itemF (row : List Nat → Option (Ty × List Nat)) (cs : List Nat) : Option (Ty × List Nat) :=
  if cs.take 1 = [40] then
    (match row (cs.drop 1) with
      | some (t, r) => if t.ins.isEmpty = true ∨ r.take 1 ≠ [41] then none else some (t, r.drop 1)
      | none => none)
  else if 0 < (cs.takeWhile isLow).length ∧ (cs.takeWhile isLow).length < 9 then some (.mk [] ⟨(cs.takeWhile isLow).toArray⟩, cs.drop (cs.takeWhile isLow).length) else none
def loopF (item : List Nat → Option (Ty × List Nat)) : Nat → List Ty → List Nat → Option (List Ty × List Nat)
  | 0, _, _ => none
  | k + 1, found, cs => match item cs with
    | none => none
    | some (t, r) => if 20 < found.length then none else if r.take 4 = ARWL then loopF item k (found ++ [t]) (r.drop 4) else some (found ++ [t], r)
def endF (f : List Ty) (r : List Nat) : Option (Ty × List Nat) := match f.getLast? with
  | none => none
  | some u => if u.ins.isEmpty = true then some (.mk f.dropLast u.atom, r) else none
def rowF : Nat → List Nat → Option (Ty × List Nat)
  | 0, _ => none
  | n + 1, cs => match loopF (itemF (rowF n)) 22 [] cs with
    | none => none
    | some (f, r) => endF f r
def tx (t : Ty) : List Nat := t.inside.cps.toList
theorem tx_plain {t : Ty} (h : t.ins.isEmpty = true) : tx t = t.text.cps.toList := by
  unfold tx Ty.inside
  rw [if_pos h]
theorem tx_paren {t : Ty} (h : t.ins.isEmpty = false) : tx t = 40 :: (t.text.cps.toList ++ [41]) := by
  unfold tx Ty.inside
  rw [h, if_neg (by decide), list_app, list_app, lp_eq, rp_eq]
  rfl
theorem text_glue (l : List Ty) (a : Str) : (Ty.mk l a).text.cps.toList = glueL ((l ++ [Ty.mk [] a]).map Ty.inside) := by
  have e : Ty.inside (.mk [] a) = a := by
    unfold Ty.inside
    rw [if_pos (show (Ty.mk [] a).ins.isEmpty = true from rfl), Ty.plain_text]
  rw [Ty.text, join_glueL, List.map_append, Ty.insideL_map]
  show glueL (l.map Ty.inside ++ [a]) = glueL (l.map Ty.inside ++ [Ty.inside (.mk [] a)])
  rw [e]
/-- a word of small letters -/
theorem word_of {w : List Nat} (h1 : 0 < w.length) (h2 : w.length < 9) (h3 : w.all isLow = true) : (Ty.mk [] ⟨w.toArray⟩).words := by
  intro b hb
  have e : (Ty.mk [] (⟨w.toArray⟩ : Str)).places = [⟨w.toArray⟩] := by rw [Ty.places, Ty.placesL_nil]; rfl
  rw [e] at hb
  rw [List.mem_singleton.mp hb]
  refine ⟨?_, fun c hc => ?_⟩
  · rw [isW_str]
    have l : (⟨w.toArray⟩ : Str).length = w.length := rfl
    rw [l, decide_eq_true (by omega : 1 ≤ w.length), decide_eq_true (by omega : w.length ≤ 8)]
    exact h3
  · have hc : c ∈ w := hc
    have := List.all_eq_true.mp h3 c hc
    unfold isLow at this
    simp only [Bool.and_eq_true, decide_eq_true_eq] at this
    omega
theorem take_one {cs : List Nat} {c : Nat} (h : cs.take 1 = [c]) : cs = c :: cs.drop 1 := by
  cases cs with
  | nil => cases h
  | cons d r =>
    have : d = c := by injection h
    rw [this]
    rfl
theorem take_low (cs : List Nat) : (cs.takeWhile isLow).all isLow = true ∧ cs = cs.takeWhile isLow ++ cs.drop (cs.takeWhile isLow).length := by
  induction cs with
  | nil => exact ⟨rfl, rfl⟩
  | cons c r ih =>
    by_cases h : isLow c = true
    · rw [List.takeWhile_cons_of_pos h]
      refine ⟨?_, ?_⟩
      · rw [List.all_cons, h, ih.1]
        rfl
      · show c :: r = c :: (r.takeWhile isLow ++ r.drop (r.takeWhile isLow).length)
        rw [← ih.2]
    · rw [List.takeWhile_cons_of_neg h]
      exact ⟨rfl, rfl⟩
theorem item_sound {row : List Nat → Option (Ty × List Nat)} (hr : ∀ c t r, row c = some (t, r) → c = t.text.cps.toList ++ r ∧ t.words) {cs : List Nat} {t : Ty} {r : List Nat} (h : itemF row cs = some (t, r)) : cs = tx t ++ r ∧ t.words := by
  unfold itemF at h
  split at h
  · rename_i h1
    split at h
    · rename_i u q hq
      split at h
      · cases h
      · rename_i c
        have h' := Option.some.inj h
        have g1 : u = t := congrArg Prod.fst h'
        have g2 : q.drop 1 = r := congrArg Prod.snd h'
        subst g1 g2
        obtain ⟨e1, w⟩ := hr _ _ _ hq
        have c1 : u.ins.isEmpty = false := by
          cases z : u.ins.isEmpty with
          | true => exact absurd (.inl z) c
          | false => rfl
        have c2 : q.take 1 = [41] := Classical.not_not.mp fun z => c (.inr z)
        refine ⟨?_, w⟩
        rw [take_one h1, e1, take_one c2, tx_paren c1]
        simp
    · cases h
  · split at h
    · rename_i c
      cases h
      obtain ⟨l1, l2⟩ := take_low cs
      refine ⟨?_, word_of c.1 c.2 l1⟩
      rw [tx_plain rfl, Ty.plain_text]
      exact l2
    · cases h
theorem loop_sound {item : List Nat → Option (Ty × List Nat)} (hi : ∀ c t r, item c = some (t, r) → c = tx t ++ r ∧ t.words) : ∀ (k : Nat) (found : List Ty) (cs : List Nat) (f : List Ty) (r : List Nat), loopF item k found cs = some (f, r) →
    ∃ ts, ts ≠ [] ∧ f = found ++ ts ∧ cs = glueL (ts.map Ty.inside) ++ r ∧ ∀ t ∈ ts, t.words
  | 0, _, _, _, _, h => by cases h
  | k + 1, found, cs, f, r, h => by
    unfold loopF at h
    split at h
    · cases h
    · rename_i t q hq
      obtain ⟨e1, w⟩ := hi _ _ _ hq
      split at h
      · cases h
      · split at h
        · rename_i ha
          obtain ⟨ts, ne, ef, ec, ws⟩ := loop_sound hi k _ _ _ _ h
          obtain ⟨u, us, rfl⟩ := List.exists_cons_of_ne_nil ne
          refine ⟨t :: u :: us, List.cons_ne_nil _ _, by rw [ef]; simp, ?_, fun z hz => ?_⟩
          · have hq2 : q = ARWL ++ q.drop 4 := by rw [← ha, List.take_append_drop]
            rw [e1, hq2, ec]
            show _ = (t.inside.cps.toList ++ (ARWL ++ glueL ((u :: us).map Ty.inside))) ++ r
            unfold tx
            simp only [List.append_assoc]
          · rcases List.mem_cons.mp hz with rfl | hz
            · exact w
            · exact ws z hz
        · cases h
          exact ⟨[t], List.cons_ne_nil _ _, rfl, e1, fun z hz => by rw [List.mem_singleton.mp hz]; exact w⟩
theorem placesL_at {b : Str} : ∀ {l : List Ty}, b ∈ Ty.placesL l → ∃ t ∈ l, b ∈ t.places
  | [], h => by rw [Ty.placesL_nil] at h; cases h
  | t :: r, h => by
    rw [Ty.placesL_cons] at h
    rcases List.mem_append.mp h with k | k
    · exact ⟨t, List.mem_cons_self .., k⟩
    · obtain ⟨u, hu, hb⟩ := placesL_at k
      exact ⟨u, List.mem_cons_of_mem _ hu, hb⟩
theorem places_in {b : Str} : ∀ {l : List Ty} {t : Ty}, t ∈ l → b ∈ t.places → b ∈ Ty.placesL l
  | u :: r, t, h, hb => by
    rw [Ty.placesL_cons]
    rcases List.mem_cons.mp h with rfl | h
    · exact List.mem_append_left _ hb
    · exact List.mem_append_right _ (places_in h hb)
theorem order_in : ∀ {l : List Ty} {t : Ty}, t ∈ l → t.order + 1 ≤ Ty.orderL l
  | u :: r, t, h => by
    rw [Ty.orderL]
    rcases List.mem_cons.mp h with rfl | h
    · omega
    · have := order_in h
      omega
theorem words_mk {l : List Ty} {a : Str} (h : ∀ t ∈ l ++ [Ty.mk [] a], t.words) : (Ty.mk l a).words := by
  intro b hb
  rw [Ty.places] at hb
  rcases List.mem_append.mp hb with k | k
  · obtain ⟨t, ht, hb⟩ := placesL_at k
    exact h t (List.mem_append_left _ ht) b hb
  · exact h (.mk [] a) (List.mem_append_right _ (List.mem_singleton.mpr rfl)) b (by rw [Ty.places]; exact List.mem_append_right _ k)
theorem row_sound : ∀ (n : Nat) (cs : List Nat) (t : Ty) (r : List Nat), rowF n cs = some (t, r) → cs = t.text.cps.toList ++ r ∧ t.words
  | 0, _, _, _, h => by cases h
  | n + 1, cs, t, r, h => by
    unfold rowF at h
    split at h
    · cases h
    · rename_i f q hq
      obtain ⟨ts, ne, ef, ec, ws⟩ := loop_sound (fun c t r => item_sound (row_sound n)) 22 [] cs f q hq
      rw [List.nil_append] at ef
      subst ef
      unfold endF at h
      rw [List.getLast?_eq_some_getLast ne] at h
      dsimp only at h
      split at h
      · rename_i hu
        cases h
        have eu : Ty.mk [] (f.getLast ne).atom = f.getLast ne := by
          have e := Ty.mk_eta (f.getLast ne)
          rw [List.isEmpty_iff.mp hu] at e
          exact e
        have ef : f.dropLast ++ [Ty.mk [] (f.getLast ne).atom] = f := by rw [eu]; exact List.dropLast_concat_getLast ne
        refine ⟨?_, words_mk (by rw [ef]; exact ws)⟩
        rw [text_glue, ef]
        exact ec
      · cases h
/-! every type's text is read -/
def NoLow (r : List Nat) : Prop := r.takeWhile isLow = []
theorem noLow_cons {c : Nat} {r : List Nat} (h : isLow c = false) : NoLow (c :: r) := List.takeWhile_cons_of_neg (by rw [h]; decide)
theorem low_app : ∀ {w r : List Nat}, w.all isLow = true → NoLow r → (w ++ r).takeWhile isLow = w
  | [], r, _, h => h
  | c :: w, r, h, k => by
    rw [List.all_cons, Bool.and_eq_true] at h
    rw [List.cons_append, List.takeWhile_cons_of_pos h.1, low_app h.2 k]
theorem loop_full {item : List Nat → Option (Ty × List Nat)} : ∀ (ts : List Ty) (k : Nat) (found : List Ty) (r : List Nat), ts ≠ [] → (∀ t ∈ ts, ∀ r, NoLow r → item (tx t ++ r) = some (t, r)) → ts.length ≤ k → found.length + ts.length ≤ 21 → NoLow r → r.take 4 ≠ ARWL →
    loopF item k found (glueL (ts.map Ty.inside) ++ r) = some (found ++ ts, r)
  | [], _, _, _, ne, _, _, _, _, _ => absurd rfl ne
  | _ :: _, 0, _, _, _, _, hk, _, _, _ => by simp at hk
  | [t], k + 1, found, r, _, hi, _, hf, nr, na => by
    unfold loopF
    have e : glueL ([t].map Ty.inside) ++ r = tx t ++ r := rfl
    rw [e, hi t (List.mem_singleton.mpr rfl) r nr]
    dsimp only
    rw [if_neg (by simp at hf; omega), if_neg na]
  | t :: u :: us, k + 1, found, r, _, hi, hk, hf, nr, na => by
    unfold loopF
    have e : glueL ((t :: u :: us).map Ty.inside) ++ r = tx t ++ (ARWL ++ (glueL ((u :: us).map Ty.inside) ++ r)) := by
      show (t.inside.cps.toList ++ (ARWL ++ glueL ((u :: us).map Ty.inside))) ++ r = _
      unfold tx
      simp only [List.append_assoc]
    rw [e, hi t (List.mem_cons_self ..) (ARWL ++ (glueL ((u :: us).map Ty.inside) ++ r)) (noLow_cons (by decide))]
    dsimp only
    rw [if_neg (by simp at hf; omega), if_pos (show (ARWL ++ (glueL ((u :: us).map Ty.inside) ++ r)).take 4 = ARWL from rfl)]
    have ih := loop_full (item := item) (u :: us) k (found ++ [t]) r (List.cons_ne_nil _ _) (fun z hz => hi z (List.mem_cons_of_mem _ hz)) (by simp at hk ⊢; omega) (by simp at hf ⊢; omega) nr na
    have e2 : (ARWL ++ (glueL ((u :: us).map Ty.inside) ++ r)).drop 4 = glueL ((u :: us).map Ty.inside) ++ r := rfl
    rw [e2, ih]
    simp
theorem row_full : ∀ (m : Nat) (t : Ty), t.places.length ≤ m → t.words → t.places.length ≤ 15 → ∀ n, t.order < n → ∀ r, NoLow r → r.take 4 ≠ ARWL → rowF n (t.text.cps.toList ++ r) = some (t, r)
  | 0, t, h, _, _, _, _, _, _, _ => by
    have := Ty.places_pos t
    omega
  | m + 1, .mk l a, h, w, few, 0, ho, _, _, _ => by omega
  | m + 1, .mk l a, h, w, few, n + 1, ho, r, nr, na => by
    have pl : (Ty.mk l a).places = Ty.placesL l ++ [a] := by rw [Ty.places]
    have ln : (Ty.placesL l).length ≤ 14 := by
      rw [pl, List.length_append] at few
      have : [a].length = 1 := rfl
      omega
    have ll := Ty.len_placesL l
    have hm : (Ty.placesL l).length ≤ m := by
      rw [pl, List.length_append] at h
      have : [a].length = 1 := rfl
      omega
    have aw := w a (by rw [pl]; exact List.mem_append_right _ (List.mem_singleton.mpr rfl))
    -- a word
    have word : ∀ (b : Str), isW (.str b) = true → ∀ r, NoLow r → itemF (rowF n) (tx (.mk [] b) ++ r) = some (.mk [] b, r) := fun b hb r nr => by
      have hw := hb
      rw [isW_str] at hw
      simp only [Bool.and_eq_true, decide_eq_true_eq] at hw
      have lb : b.cps.toList.length = b.length := (len_tl b).symm
      have tb : tx (.mk [] b) = b.cps.toList := by rw [tx_plain rfl, Ty.plain_text]
      have tw : (b.cps.toList ++ r).takeWhile isLow = b.cps.toList := low_app hw.2 nr
      unfold itemF
      rw [tb, if_neg, tw, if_pos ⟨by omega, by omega⟩, List.drop_left]
      intro z
      cases hc : b.cps.toList with
      | nil => rw [hc] at lb; simp at lb; omega
      | cons c q =>
        rw [hc] at z
        have z : c = 40 := by injection z
        have := hw.2
        rw [hc, List.all_cons, z] at this
        cases this
    have all : ∀ t ∈ l ++ [Ty.mk [] a], ∀ r, NoLow r → itemF (rowF n) (tx t ++ r) = some (t, r) := fun t ht r nr => by
      rcases List.mem_append.mp ht with ht | ht
      · have ft : ∀ b ∈ t.places, b ∈ Ty.placesL l := fun b hb => places_in ht hb
        have wt : t.words := fun b hb => w b (by rw [pl]; exact List.mem_append_left _ (ft b hb))
        by_cases c : t.ins.isEmpty = true
        · have et : t = .mk [] t.atom := by
            have e := Ty.mk_eta t
            rw [List.isEmpty_iff.mp c] at e
            exact e.symm
          rw [et]
          exact word _ (wt t.atom (by rw [Ty.places_of t]; exact List.mem_append_right _ (List.mem_singleton.mpr rfl))).1 r nr
        · have c : t.ins.isEmpty = false := by simpa using c
          have fl := Ty.few_ins ht
          have ot : t.order < n := by
            have e : (Ty.mk l a).order = Ty.orderL l := by rw [Ty.order]
            rw [e] at ho
            have := order_in ht
            omega
          have ih := row_full m t (by omega) wt (by omega) n ot (41 :: r) (noLow_cons (by decide)) (by intro z; injection z with z1 _; cases z1)
          rw [tx_paren c]
          unfold itemF
          have e1 : ((40 :: (t.text.cps.toList ++ [41])) ++ r).take 1 = [40] := rfl
          have e2 : ((40 :: (t.text.cps.toList ++ [41])) ++ r).drop 1 = t.text.cps.toList ++ 41 :: r := by simp
          rw [if_pos e1, e2, ih]
          dsimp only
          rw [if_neg (by rintro (z | z); · rw [c] at z; cases z
                         · exact z rfl)]
          rfl
      · rw [List.mem_singleton.mp ht]
        exact word a aw.1 r nr
    unfold rowF
    have hl := loop_full (item := itemF (rowF n)) (l ++ [Ty.mk [] a]) 22 [] r (by simp) all (by simp; omega) (by simp; omega) nr na
    rw [text_glue, hl]
    dsimp only
    unfold endF
    rw [List.nil_append, List.getLast?_concat]
    dsimp only
    rw [if_pos (show (Ty.mk [] a).ins.isEmpty = true from rfl), List.dropLast_concat]
    rfl
/-! what is due -/
def dueF (x : Str) : Option Ty := if PyProof.Rows.cnt 40 x.cps.toList < 30 then (match rowF 30 x.cps.toList with
  | some (t, r) => if r ≠ [] ∨ 15 < t.places.length ∨ 4 < t.order then none else some t
  | none => none) else none
theorem due_sound {x : Str} {t : Ty} (h : dueF x = some t) : t.Fits ∧ t.text = x := by
  unfold dueF at h
  split at h
  · split at h
    · rename_i u r hr
      split at h
      · cases h
      · rename_i c
        have e : u = t := Option.some.inj h
        subst e
        obtain ⟨e1, w⟩ := row_sound _ _ _ _ hr
        have rn : r = [] := Classical.not_not.mp fun z => c (.inl z)
        rw [rn, List.append_nil] at e1
        exact ⟨⟨w, by have : ¬ 15 < u.places.length := fun z => c (.inr (.inl z)); omega, by have : ¬ 4 < u.order := fun z => c (.inr (.inr z)); omega⟩, str_list e1.symm⟩
    · cases h
  · cases h
open PyProof.Rows in
theorem cnt_text : ∀ (m : Nat) (t : Ty), t.places.length ≤ m → t.words → cnt 40 t.text.cps.toList + 1 ≤ (t.places.length : Int)
  | 0, t, h, _ => by
    have := Ty.places_pos t
    omega
  | m + 1, .mk l a, h, w => by
    have pl : (Ty.mk l a).places = Ty.placesL l ++ [a] := by rw [Ty.places]
    have one : [a].length = 1 := rfl
    have aw := w a (by rw [pl]; exact List.mem_append_right _ (List.mem_singleton.mpr rfl))
    rw [pl, List.length_append, one] at h ⊢
    have e : (Ty.mk l a).text.cps.toList = glueL (l.map Ty.inside ++ [a]) := by rw [Ty.text, join_glueL, Ty.insideL_map]
    have key : ∀ r : List Ty, (∀ u ∈ r, u ∈ l) → cnt 40 (glueL (r.map Ty.inside ++ [a])) ≤ ((Ty.placesL r).length : Int) := by
      intro r
      induction r with
      | nil =>
        intro _
        have : cnt 40 a.cps.toList = 0 := cnt_none 40 _ (word_not aw.1 (by omega))
        show cnt 40 a.cps.toList ≤ _
        omega
      | cons u us ih =>
        intro hr
        have ih := ih fun z hz => hr z (List.mem_cons_of_mem _ hz)
        have hu := hr u (List.mem_cons_self ..)
        have fu := Ty.few_ins hu
        have wu : u.words := fun b hb => w b (by rw [pl]; exact List.mem_append_left _ (places_in hu hb))
        have cu := cnt_text m u (by omega) wu
        have ci : cnt 40 u.inside.cps.toList ≤ (u.places.length : Int) := by
          have e2 : u.inside.cps.toList = tx u := rfl
          rw [e2]
          cases c : u.ins.isEmpty with
          | true => rw [tx_plain c]; omega
          | false =>
            rw [tx_paren c, cnt_cons, cnt_append, cnt_cons, cnt_nil]
            simp only [if_pos, if_neg (by decide : ¬ 41 = 40)]
            omega
        rw [List.map_cons, List.cons_append]
        have g := glue_app [u.inside] (us.map Ty.inside ++ [a]) (List.cons_ne_nil _ _) (by simp)
        have g2 : glueL (u.inside :: (us.map Ty.inside ++ [a])) = u.inside.cps.toList ++ ([32, 45, 62, 32] ++ glueL (us.map Ty.inside ++ [a])) := g
        rw [g2, cnt_append, cnt_append, Ty.placesL_cons, List.length_append]
        have z : cnt 40 [32, 45, 62, 32] = 0 := by decide +kernel
        rw [z]
        omega
    have k := key l fun u hu => hu
    rw [e]
    omega
theorem due_full {t : Ty} (f : t.Fits) : dueF t.text = some t := by
  unfold dueF
  have c := cnt_text _ t (Nat.le_refl _) f.words
  have few := f.few
  have low := f.low
  have r := row_full _ t (Nat.le_refl _) f.words f.few 30 (by omega) [] rfl (by intro z; cases z)
  rw [List.append_nil] at r
  rw [if_pos (by omega), r]
  dsimp only
  rw [if_neg (by rintro (z | z | z); · exact z rfl
                 · omega
                 · omega)]
theorem due_iff {x : Str} {t : Ty} : dueF x = some t ↔ t.Fits ∧ t.text = x := ⟨due_sound, fun h => h.2 ▸ due_full h.1⟩
theorem due_none {x : Str} (h : dueF x = none) : ∀ t : Ty, t.Fits → t.text ≠ x := fun t f e => by
  rw [due_iff.mpr ⟨f, e⟩] at h
  cases h


end My
namespace My
open PySem PySem.Spec PyProof.Rows L2 TL
set_option pp.maxSteps 3000
set_option pp.deepTerms false
theorem asg_go {i : Nat} {x : V} {σ : L2.St} {H : Hp} {D : Ends} (h : D.nx (σ.set i (some x)) H) : gName i x σ H D.nx := h
/-! ### kinds as the law has them: nested tuples -/
mutual
def IsK (H : Hp) : Ty → V → Prop
  | .mk i a, v => ∃ p q rs, v = .ref p ∧ H p = some (.tup [.ref q, .str a]) ∧ H q = some (.tup rs) ∧ IsKs H i rs
def IsKs (H : Hp) : List Ty → List V → Prop
  | [], rs => rs = []
  | t :: r, rs => ∃ v vs, rs = v :: vs ∧ IsK H t v ∧ IsKs H r vs
end
mutual
theorem IsK.held {H H' : Hp} (s : Held H H') : ∀ (t : Ty) (v : V), IsK H t v → IsK H' t v
  | .mk i a, v, h => by
    rw [IsK] at h ⊢
    obtain ⟨p, q, rs, e, hp, hq, hi⟩ := h
    exact ⟨p, q, rs, e, s _ _ hp trivial, s _ _ hq trivial, IsKs.held s i rs hi⟩
theorem IsKs.held {H H' : Hp} (s : Held H H') : ∀ (l : List Ty) (rs : List V), IsKs H l rs → IsKs H' l rs
  | [], rs, h => by
    rw [IsKs] at h ⊢
    exact h
  | t :: r, rs, h => by
    rw [IsKs] at h ⊢
    obtain ⟨v, vs, e, h1, h2⟩ := h
    exact ⟨v, vs, e, IsK.held s t v h1, IsKs.held s r vs h2⟩
end
theorem IsK.at {H : Hp} {t : Ty} {v : V} (h : IsK H t v) : ∃ p q rs, v = .ref p ∧ H p = some (.tup [.ref q, .str t.atom]) ∧ H q = some (.tup rs) ∧ IsKs H t.ins rs := by
  cases t with
  | mk i a =>
    rw [IsK] at h
    exact h
theorem IsKs.get {H : Hp} : ∀ {l : List Ty} {rs : List V} {i : Nat} {v : V}, IsKs H l rs → rs[i]? = some v → ∃ t, l[i]? = some t ∧ IsK H t v
  | [], rs, i, v, h, e => by
    rw [IsKs] at h
    rw [h] at e
    cases e
  | t :: r, rs, i, v, h, e => by
    rw [IsKs] at h
    obtain ⟨w, ws, rfl, h1, h2⟩ := h
    cases i with
    | zero => exact ⟨t, rfl, by cases e; exact h1⟩
    | succ i => exact IsKs.get (l := r) (i := i) h2 e
theorem IsKs.len {H : Hp} : ∀ {l : List Ty} {rs : List V}, IsKs H l rs → rs.length = l.length
  | [], rs, h => by
    rw [IsKs] at h
    rw [h]
    rfl
  | t :: r, rs, h => by
    rw [IsKs] at h
    obtain ⟨w, ws, rfl, h1, h2⟩ := h
    rw [List.length_cons, IsKs.len h2, List.length_cons]
theorem IsKs.nil {H : Hp} : IsKs H [] [] := by rw [IsKs]
theorem IsKs.cons {H : Hp} {t : Ty} {l : List Ty} {v : V} {rs : List V} (h : IsK H t v) (k : IsKs H l rs) : IsKs H (t :: l) (v :: rs) := by
  rw [IsKs]
  exact ⟨v, rs, rfl, h, k⟩
theorem IsKs.app {H : Hp} : ∀ {l m : List Ty} {rs ss : List V}, IsKs H l rs → IsKs H m ss → IsKs H (l ++ m) (rs ++ ss)
  | [], m, rs, ss, h, k => by
    rw [IsKs] at h
    rw [h]
    exact k
  | t :: r, m, rs, ss, h, k => by
    rw [IsKs] at h
    obtain ⟨w, ws, rfl, h1, h2⟩ := h
    rw [List.cons_append, IsKs]
    exact ⟨w, ws ++ ss, rfl, h1, IsKs.app h2 k⟩
theorem Ext.held {d : Addr} {H H' : Hp} (e : Ext d H H') (D : IsDice H d) : Held H H' := fun b o hb f => by
  refine e b o (fun z => ?_) hb
  obtain ⟨x, y, u, hd⟩ := D
  rw [z, hd] at hb
  cases hb
  exact f
theorem Held.trans {H H1 H2 : Hp} (a : Held H H1) (b : Held H1 H2) : Held H H2 := fun x o h f => b x o (a x o h f) f
theorem Ty.take_places (l : List Ty) (i : Nat) : (Ty.placesL (l.take i)).length ≤ (Ty.placesL l).length := by
  have e : Ty.placesL l = Ty.placesL (l.take i) ++ Ty.placesL (l.drop i) := by rw [← Ty.placesL_append, List.take_append_drop]
  rw [e, List.length_append]
  exact Nat.le_add_right _ _
def spr__law_atoms_of (n : Nat) (K : PySem.W.Frag) : Sp := fun vs H Q _ => ∃ v t, vs = [v] ∧ IsK H t v ∧ t.order < n ∧ t.places.length ≤ 1000 ∧ ∀ p H', Same H H' → H p = none → H' p = some (.lst (t.places.map V.str)) → Q (.ref p) H'
def sp__law_atoms_of (K : PySem.W.Frag) : Sp := spr__law_atoms_of 6 K
def spr__law_made_kind (n : Nat) (K : PySem.W.Frag) (C : Addr) : Sp := fun vs H Q _ => ∃ v t, vs = [v] ∧ IsK H t v ∧ t.order < n ∧ t.Fits ∧ Made C H Q t
def sp__law_made_kind (K : PySem.W.Frag) (C : Addr) : Sp := spr__law_made_kind 6 K C
section
variable {P : Program} {w : World} {K : PySem.W.Frag} {mg : Str → Option Value} {base : Heap} {C_Type : Addr}
theorem ok__law_atoms_of (T : Txt K mg C_Type) {f : Addr} {fd : FuncData} (F : Fun K "_law_atoms_of" "_law_atoms_of" s__law_atoms_of f fd) (M : mg "_law_atoms_of" = some (.ref f)) (B : Binds K fd ["_law_kind_here"] []) : ∀ n : Nat, FnOk P w K mg base CX0 (1 + n) f fd ["_law_kind_here"] (spr__law_atoms_of n K)
  | 0 => by
    refine F.ok sc__law_atoms_of (fun vs H Q E h => ?_) (fun cdv A outer s H vs Q E hr h => ?_) <;> (obtain ⟨_, _, _, _, z, _⟩ := h; exact absurd z (Nat.not_lt_zero _))
  | n + 1 => by
    have ih := ok__law_atoms_of T F M B n
    have C_self : CalN P w K mg base "_law_atoms_of" (1 + n) ["_law_kind_here"] (spr__law_atoms_of n K) := ⟨f, fd, ih, M, F.kp, B⟩
    have nd := sc__law_atoms_of.nd
    refine F.ok sc__law_atoms_of (fun vs H Q E h => ?_) (fun cdv A outer s H vs Q E hr h => ?_)
    · obtain ⟨v, t, rfl, _⟩ := h
      rfl
    · obtain ⟨v, t, rfl, ht, lo, fp, q⟩ := h
      have hr : Room (1 + n) (A.deeper (envOfC "_law_atoms_of" (defScope s__law_atoms_of) s.heap.objs.size f cdv)) := by
        have e : 1 + n = Nat.add 1 n := rfl
        exact hr
      refine ⟨_, (pss_cons (ps_set (i := 1) nd rfl (.inl rfl) (pe_lst pa_nil))
      (pss_cons (ps_for PassesOwn.never rfl (pi_tup (pe_ix ix_tup (pv 0) pe_int (fun _ _ => rfl))) (pg_name (i := 2) nd rfl (.inl rfl)) (pss_one (ps_set (i := 1) nd rfl (.inl rfl) (pe_op op_cat (pv 1) (pe_callN C_self (hr.mono (by first | decide | omega)) rfl (pa_cons (pv 2) pa_nil))))))
      (pss_one (ps_ret (pe_op op_cat (pv 1) (pe_lst (pa_cons (pe_ix ix_tup (pv 0) pe_int (fun _ _ => rfl)) pa_nil))))))), ?_⟩
      obtain ⟨p, q', rs, rfl, hp, hq, hk⟩ := ht.at
      have lr := hk.len
      have eo : t.order = Ty.orderL t.ins := by cases t; rw [Ty.order]; rfl
      have ep := Ty.places_of t
      have len : (Ty.placesL t.ins).length + 1 = t.places.length := by rw [ep, List.length_append]; rfl
      refine ⟨Nat.zero_le _, fun l1 hl1 => ?_⟩
      have s1 : Same H (upd H l1 (.lst [])) := (Same.refl H).new hl1
      refine asg_go ?_
      dsimp only
      refine cut_for (fun σ' H' => ∃ l s2, σ' = [some (.ref p), some (.ref l), s2] ∧ H' l = some (.lst ((Ty.placesL t.ins).map V.str)) ∧ H l = none ∧ Same H H') (fun N hN => ?_) ?_
      · refine ⟨.ref p, rfl, p, _, 0, _, rfl, rfl, SqT.of (s1 _ _ hp), rfl, q', rfl, ⟨rs, SqT.of (s1 _ _ hq)⟩, ?_⟩
        refine for_tup (xs := rs) (fun i σ' H' => ∃ l s2, σ' = [some (.ref p), some (.ref l), s2] ∧ H' l = some (.lst ((Ty.placesL (t.ins.take i)).map V.str)) ∧ H l = none ∧ Same H H') ?_ (fun i σ' H' _ hP => ?_) (fun i y σ' H' hy hP => ?_) (fun σ' H' hP => ?_)
        · exact ⟨l1, none, rfl, by rw [upd_same, List.take_zero, Ty.placesL_nil]; rfl, hl1, s1⟩
        · obtain ⟨_, _, _, _, _, s2⟩ := hP
          exact SqT.of (s2 _ _ hq)
        · obtain ⟨l, s2, rfl, hl, nl, s3⟩ := hP
          obtain ⟨s, es, hs⟩ := hk.get hy
          have sm := List.mem_of_getElem? es
          have lo' : s.order < n := by
            have := Ty.low_ins sm
            omega
          have f1 := Ty.few_ins sm
          have f2 := Ty.take_places t.ins i
          refine ⟨.ref l, rfl, y, rfl, y, s, rfl, IsK.held s3.held s y hs, lo', by omega, fun p2 H2 s4 np hp2 => ?_⟩
          refine ⟨l, p2, _, _, rfl, rfl, s4 _ _ hl, hp2, lt_line (by rw [List.length_map, List.length_map]; omega), fun p3 hp3 => ?_⟩
          have s5 := s3.trans s4
          refine ⟨p3, _, rfl, ?_, s5.free hp3, s5.new hp3⟩
          rw [upd_same, take_next es, Ty.placesL_append, Ty.placesL_cons, Ty.placesL_nil, List.append_nil, List.map_append]
        · obtain ⟨l, s2, rfl, hl, nl, s3⟩ := hP
          rw [lr, List.take_length] at hl
          exact hN _ _ ⟨l, s2, rfl, hl, nl, s3⟩
      rintro σ' H' ⟨l, s2, rfl, hl, nl, s3⟩
      refine ⟨.ref l, rfl, .ref p, rfl, p, _, 1, _, rfl, rfl, SqT.of (s3 _ _ hp), rfl, by show 1 ≤ sizeLine; decide, fun p2 hp2 => ?_⟩
      refine ⟨l, p2, _, [.str t.atom], rfl, rfl, by rw [upd_ne (ne_of_none hl hp2)]; exact hl, upd_same, lt_line (by rw [List.length_map]; show _ + 1 ≤ _; omega), fun p3 hp3 => ?_⟩
      have s4 := (s3.new (o := .lst [.str t.atom]) hp2).new (o := .lst ((Ty.placesL t.ins).map V.str ++ [.str t.atom])) hp3
      refine q p3 _ s4 ((s3.new hp2).free hp3) ?_
      rw [upd_same, ep, List.map_append]
      rfl
theorem ok__law_made_kind (T : Txt K mg C_Type) (i_Type___init__ : MakC P w K mg base C_Type 4 ["self", "inputs", "atom"] (sp_Type___init__ K C_Type)) {f : Addr} {fd : FuncData} (F : Fun K "_law_made_kind" "_law_made_kind" s__law_made_kind f fd) (M : mg "_law_made_kind" = some (.ref f)) (B : Binds K fd ["_law_kind_here"] []) : ∀ n : Nat, FnOk P w K mg base CX0 (6 + n) f fd ["_law_kind_here"] (spr__law_made_kind n K C_Type)
  | 0 => by
    refine F.ok sc__law_made_kind (fun vs H Q E h => ?_) (fun cdv A outer s H vs Q E hr h => ?_) <;> (obtain ⟨_, _, _, _, z, _⟩ := h; exact absurd z (Nat.not_lt_zero _))
  | n + 1 => by
    have ih := ok__law_made_kind T i_Type___init__ F M B n
    have C_self : CalN P w K mg base "_law_made_kind" (6 + n) ["_law_kind_here"] (spr__law_made_kind n K C_Type) := ⟨f, fd, ih, M, F.kp, B⟩
    have nd := sc__law_made_kind.nd
    refine F.ok sc__law_made_kind (fun vs H Q E h => ?_) (fun cdv A outer s H vs Q E hr h => ?_)
    · obtain ⟨v, t, rfl, _⟩ := h
      rfl
    · obtain ⟨v, t, rfl, ht, lo, ft, q⟩ := h
      have hr : Room (6 + n) (A.deeper (envOfC "_law_made_kind" (defScope s__law_made_kind) s.heap.objs.size f cdv)) := by
        exact hr
      refine ⟨_, (pss_one (ps_ret (pe_makeC i_Type___init__ (hr.mono (by first | decide | omega)) rfl T.c_Type (pa_cons (pe_callTy call_tuple_of (by rfl) T.b_tuple (by decide +kernel) (pa_cons (pe_lcD (own := [("_law_one", 1)]) (by rfl) nd (pi_tup (pe_ix ix_tup (pv 0) pe_int (fun _ _ => rfl))) (blkOk_by (own := [("_law_one", 1)]) (N := ["_law_kind_here", "_law_one"]) (sc := (defScope s__law_made_kind)) (by decide +kernel)) (fun _ _ _ _ _ => pg_name (i := 1) nd rfl (Or.inl rfl)) (fun _ _ _ _ _ => pts_nil) (fun _ _ _ _ _ => (pe_callN C_self (hr.mono (by first | decide | omega)) rfl (pa_cons (pv 1) pa_nil)))) pa_nil)) (pa_cons (pe_ix ix_tup (pv 0) pe_int (fun _ _ => rfl)) pa_nil))))), ?_⟩
      obtain ⟨p, q', rs, rfl, hp, hq, hk⟩ := ht.at
      have lr := hk.len
      have few := Fits_ins_len ft
      have ft' : (Ty.mk t.ins t.atom).Fits := by rw [Ty.mk_eta]; exact ft
      have eo : t.order = Ty.orderL t.ins := by cases t; rw [Ty.order]; rfl
      refine ⟨.ref p, rfl, p, _, 0, _, rfl, rfl, SqT.of hp, rfl, q', rfl, ⟨rs, SqT.of hq⟩, fun D hD => ?_⟩
      refine lc_tup (xs := rs) (fun i H' => ∃ rs', H' D = some (.lst rs') ∧ IsTs C_Type H' (t.ins.take i) rs' ∧ Same H H') ?_ (fun i H' _ hP => ?_) (fun i y H' hy hP => ?_) (fun H' hP => ?_)
      · exact ⟨[], upd_same, by rw [List.take_zero]; exact IsTs.nil, (Same.refl H).mut hD⟩
      · obtain ⟨_, _, _, s2⟩ := hP
        exact SqT.of (s2 _ _ hq)
      · obtain ⟨rs', hD1, hl1, s2⟩ := hP
        obtain ⟨s, es, hs⟩ := hk.get hy
        have sm := List.mem_of_getElem? es
        have lo' : s.order < n := by
          have := Ty.low_ins sm
          omega
        refine ⟨rfl, tyes ?_⟩
        refine ⟨y, rfl, y, s, rfl, IsK.held s2.held s y hs, lo', ft'.ins sm, fun x H2 s3 hx => ?_⟩
        refine ⟨rs', s3 _ _ hD1, lt_line' (by rw [hl1.len, List.length_take]; omega), rs' ++ [.ref x], upd_same, ?_, (s2.trans s3).mut hD⟩
        rw [take_next es]
        have h3 : Held H2 (upd H2 D (.lst (rs' ++ [.ref x]))) := held_lst (s3 _ _ hD1)
        exact (IsTs.held h3 _ _ (IsTs.same s3 _ _ hl1)).app (.cons (IsT.held h3 _ _ hx) .nil)
      · obtain ⟨rs', hD1, hl1, s2⟩ := hP
        rw [lr, List.take_length] at hl1
        refine ⟨D, rs', rfl, .inl ⟨SqL.of hD1, fun l hl9 => ?_⟩⟩
        have s9 := s2.new (o := .tup rs') hl9
        refine ⟨.ref p, rfl, p, _, 1, _, rfl, rfl, SqT.of (s9 _ _ hp), rfl, ?_⟩
        exact make_ty upd_same (IsTs.same ((Same.refl H').new hl9) _ _ hl1) ft' fun x H' s h => q x H' (s9.trans s) (by rw [Ty.mk_eta] at h; exact h)
end


end My
namespace My
open PySem PySem.Spec PyProof.Rows L2 TL
set_option pp.maxSteps 3000
set_option pp.deepTerms false
theorem Ty.orderL_le {o : Nat} : ∀ l : List Ty, (∀ t ∈ l, t.order + 1 ≤ o) → Ty.orderL l ≤ o
  | [], _ => by rw [Ty.orderL]; exact Nat.zero_le _
  | t :: r, h => by
    rw [Ty.orderL]
    exact Nat.max_le.mpr ⟨h t (List.mem_cons_self ..), Ty.orderL_le r fun u hu => h u (List.mem_cons_of_mem _ hu)⟩
theorem pick_size {L : Int} {x : V} (h : 0 < L) (hx : x ∈ [V.int 1, V.int (if L < 3 then L else 3), V.int L]) : ∃ k : Nat, x = .int k ∧ 1 ≤ k ∧ (k : Int) ≤ L := by
  have nat : ∀ z : Int, 1 ≤ z → z ≤ L → ∃ k : Nat, V.int z = .int k ∧ 1 ≤ k ∧ (k : Int) ≤ L := fun z h1 h2 => ⟨z.toNat, by rw [Int.toNat_of_nonneg (by omega)], by omega, by omega⟩
  rcases List.mem_cons.mp hx with rfl | hx
  · exact nat 1 (by omega) (by omega)
  rcases List.mem_cons.mp hx with rfl | hx
  · by_cases c : L < 3
    · rw [if_pos c]
      exact nat L (by omega) (by omega)
    · rw [if_neg c]
      exact nat 3 (by omega) (by omega)
  · rw [List.mem_singleton.mp hx]
    exact nat L (by omega) (by omega)
theorem pick_order {o : Nat} {x : V} (h : 0 < o) (hx : x ∈ [V.int 0, V.int 0, V.int ((o : Int) - 1)]) : ∃ k : Nat, x = .int k ∧ k + 1 ≤ o := by
  rcases List.mem_cons.mp hx with rfl | hx
  · exact ⟨0, rfl, h⟩
  rcases List.mem_cons.mp hx with rfl | hx
  · exact ⟨0, rfl, h⟩
  · rw [List.mem_singleton.mp hx]
    exact ⟨o - 1, by rw [Int.ofNat_sub h] <;> rfl, by omega⟩
def spr__law_kind (n : Nat) (K : PySem.W.Frag) : Sp := fun vs H Q _ => ∃ d la, ∃ A : List Str, ∃ o m : Nat, vs = [.ref d, .ref la, .int o, .int m] ∧ IsDice H d ∧ H la = some (.lst (A.map V.str)) ∧ la ≠ d ∧ A ≠ [] ∧ A.length ≤ 1000 ∧ o < n ∧ o ≤ 5 ∧ 1 ≤ m ∧ m ≤ 1000 ∧
  ∀ v t H', IsK H' t v → t.order ≤ o → t.places.length ≤ m → (∀ x ∈ t.places, x ∈ A) → Ext d H H' → IsDice H' d → Q v H'
def sp__law_kind (K : PySem.W.Frag) : Sp := spr__law_kind 6 K
section
variable {P : Program} {w : World} {K : PySem.W.Frag} {mg : Str → Option Value} {base : Heap} {C_Type : Addr}
theorem ok__law_kind (T : Txt K mg C_Type) (c__law_pick : CalN P w K mg base "_law_pick" 2 ["_law_dice_here", "_law_items"] (sp__law_pick K)) (c__law_roll : CalN P w K mg base "_law_roll" 1 ["_law_dice_here", "_law_total"] (sp__law_roll K)) (c__law_atoms_of : CalN P w K mg base "_law_atoms_of" 32 ["_law_kind_here"] (spr__law_atoms_of 31 K)) {f : Addr} {fd : FuncData} (F : Fun K "_law_kind" "_law_kind" s__law_kind f fd) (M : mg "_law_kind" = some (.ref f)) (B : Binds K fd ["_law_dice_here", "_law_atoms", "_law_order", "_law_most"] []) : ∀ n : Nat, FnOk P w K mg base CX0 (33 + n) f fd ["_law_dice_here", "_law_atoms", "_law_order", "_law_most"] (spr__law_kind n K)
  | 0 => by
    refine F.ok sc__law_kind (fun vs H Q E h => ?_) (fun cdv A outer s H vs Q E hr h => ?_) <;> (obtain ⟨_, _, _, _, _, _, _, _, _, _, _, z, _⟩ := h; exact absurd z (Nat.not_lt_zero _))
  | n + 1 => by
    have ih := ok__law_kind T c__law_pick c__law_roll c__law_atoms_of F M B n
    have C_self : CalN P w K mg base "_law_kind" (33 + n) ["_law_dice_here", "_law_atoms", "_law_order", "_law_most"] (spr__law_kind n K) := ⟨f, fd, ih, M, F.kp, B⟩
    have nd := sc__law_kind.nd
    refine F.ok sc__law_kind (fun vs H Q E h => ?_) (fun cdv A outer s H vs Q E hr h => ?_)
    · obtain ⟨d, la, A, o, m, rfl, _⟩ := h
      rfl
    · obtain ⟨d, la, As, o, m, rfl, hd, hA, nA, eA, zA, lo, o5, m1, m2, q⟩ := h
      have hr : Room (33 + n) (A.deeper (envOfC "_law_kind" (defScope s__law_kind) s.heap.objs.size f cdv)) := hr
      refine ⟨_, (pss_cons (ps_par (i := 4) (j := 5) (by rfl) nd rfl rfl (by decide) rfl rfl (pa_cons (pe_lst pa_nil) (pa_cons (pe_op op_sub (pv 3) pe_int) pa_nil)) (by rfl))
      (pss_cons (ps_for PassesOwn.never rfl (pi_range1 (by rfl) T.b_range (pa_cons (pe_ifExp (pt_cmpR op_gt (pv 2) pe_int (nomark _)) (pe_callN c__law_roll (hr.mono (by first | decide | omega)) rfl (pa_cons (pv 0) (pa_cons pe_int pa_nil))) pe_int) pa_nil)) (pg_name (i := 6) nd rfl (.inl rfl)) (pss_one (ps_if (pt_cmpR op_gt (pv 5) pe_int (nomark _)) (pss_cons (ps_set (i := 7) nd rfl (.inl rfl) (pe_callN c__law_pick (hr.mono (by first | decide | omega)) rfl (pa_cons (pv 0) (pa_cons (pe_lst (pa_cons pe_int (pa_cons (pe_callB (call_min2 rfl) (by rfl) T.b_min (by decide +kernel) (pa_cons pe_int (pa_cons (pv 5) pa_nil))) (pa_cons (pv 5) pa_nil)))) pa_nil))))
      (pss_cons (ps_set (i := 8) nd rfl (.inl rfl) (pe_callN C_self (hr.mono (by first | decide | omega)) rfl (pa_cons (pv 0) (pa_cons (pv 1) (pa_cons (pe_callN c__law_pick (hr.mono (by first | decide | omega)) rfl (pa_cons (pv 0) (pa_cons (pe_lst (pa_cons pe_int (pa_cons pe_int (pa_cons (pe_op op_sub (pv 2) pe_int) pa_nil)))) pa_nil))) (pa_cons (pv 7) pa_nil))))))
      (pss_cons (ps_expr (pe_bm PySem.F.plainAttrs_list PySem.F.slot_list_append PySem.F.type_list_append mt_append (pv 4) (pa_cons (pv 8) pa_nil)))
      (pss_one (ps_set (i := 5) nd rfl (.inl rfl) (pe_op op_sub (pv 5) (pe_callB call_len (by rfl) T.b_len (by decide +kernel) (pa_cons (pe_callN c__law_atoms_of (hr.mono (by first | decide | omega)) rfl (pa_cons (pv 8) pa_nil)) pa_nil)))))))) pss_nil)))
      (pss_one (ps_ret (pe_tup (pa_cons (pe_callTy call_tuple_of (by rfl) T.b_tuple (by decide +kernel) (pa_cons (pv 4) pa_nil)) (pa_cons (pe_callN c__law_pick (hr.mono (by first | decide | omega)) rfl (pa_cons (pv 0) (pa_cons (pv 1) pa_nil))) pa_nil))))))), ?_⟩
      have t3 : 3 ≤ sizeLine := by decide
      refine ⟨Nat.zero_le _, fun li hli => ?_⟩
      refine ⟨.int m, rfl, (m : Int), 1, rfl, rfl, _, _, rfl, ?_⟩
      have nli : li ≠ d := hd.ne hli
      have e0 : Ext d H (upd H li (.lst [])) := (Ext.refl H).new hli
      have d0 : IsDice (upd H li (.lst [])) d := hd.new hli
      dsimp only
      refine cut_for (fun σ' H' => ∃ s5 s6 s7 s8 ts rs, σ' = [some (.ref d), some (.ref la), some (.int o), some (.int m), some (.ref li), s5, s6, s7, s8] ∧ H' li = some (.lst rs) ∧ IsKs H' ts rs ∧ (∀ t ∈ ts, t.order + 1 ≤ o) ∧ (Ty.placesL ts).length + 1 ≤ m ∧ (∀ x ∈ Ty.placesL ts, x ∈ As) ∧ Ext d H H' ∧ IsDice H' d) (fun N hN => ?_) ?_
      · refine ⟨.int o, rfl, (o : Int), 0, rfl, rfl, _, rfl, ite2 (fun c => ?_) (fun c => ?_)⟩
        · have o0 : 0 < o := by have := of_decide_eq_true c; omega
          refine ⟨.ref d, rfl, d, 4, rfl, d0, by decide, by decide, fun r H1 r0 r1 e1 d1 => ?_⟩
          have e01 := e0.trans e1
          refine ⟨r, rfl, by omega, by omega, for_range (lo := 0) (fun i σ' H' => ∃ L s6 s7 s8 ts rs, σ' = [some (.ref d), some (.ref la), some (.int o), some (.int m), some (.ref li), some (.int L), s6, s7, s8] ∧ 0 ≤ L ∧ L + (Ty.placesL ts).length + 1 = (m : Int) ∧ H' li = some (.lst rs) ∧ IsKs H' ts rs ∧ ts.length = rs.length ∧ rs.length ≤ i ∧ (∀ t ∈ ts, t.order + 1 ≤ o) ∧ (∀ x ∈ Ty.placesL ts, x ∈ As) ∧ Ext d H H' ∧ IsDice H' d) ?_ (fun i σ' H' hi hP => ?_) (fun σ' H' hP => ?_)⟩
          · exact ⟨_, _, _, _, [], [], rfl, by omega, by rw [Ty.placesL_nil]; show (m : Int) - 1 + 0 + 1 = m; omega, e1 _ _ nli upd_same, .nil, rfl, Nat.zero_le _, fun _ h => (by cases h), fun _ h => (by rw [Ty.placesL_nil] at h; cases h), e01, d1⟩
          · obtain ⟨L, s6, s7, s8, ts, rs, rfl, L0, Lm, hli1, hk, ln, li4, ords, ins, e2, d2⟩ := hP
            refine ⟨.int L, rfl, L, 0, rfl, rfl, _, rfl, ite2 (fun c => ?_) (fun c => ?_)⟩
            · have Lp : 0 < L := of_decide_eq_true c
              refine ⟨.ref d, rfl, .int L, rfl, 3, L, rfl, .int L, rfl, t3, fun l1 hl1 => ?_⟩
              refine ⟨d, l1, _, rfl, d2.new hl1, SqL.of upd_same, d2.ne hl1, by simp, by show 3 < 1000000; decide, fun x H2 hx e3 d3 => ?_⟩
              obtain ⟨k, rfl, k1, kL⟩ := pick_size Lp hx
              refine asg_go ?_
              dsimp only
              have e13 := (e2.new (o := .lst [V.int 1, V.int (if L < 3 then L else 3), V.int L]) hl1).trans e3
              have hk3 := IsKs.held ((((Ext.refl H').new (o := .lst [V.int 1, V.int (if L < 3 then L else 3), V.int L]) hl1).trans e3).held d2) ts rs hk
              have hli3 : H2 li = some (.lst rs) := e3 _ _ nli (by rw [upd_ne (ne_of_none hli1 hl1)]; exact hli1)
              refine ⟨.ref d, rfl, .ref la, rfl, .ref d, rfl, .int o, rfl, (o : Int), 1, rfl, rfl, t3, fun l2 hl2 => ?_⟩
              refine ⟨d, l2, _, rfl, d3.new hl2, SqL.of upd_same, d3.ne hl2, by simp, by show 3 < 1000000; decide, fun y H3 hy e4 d4 => ?_⟩
              obtain ⟨o', rfl, ho'⟩ := pick_order o0 hy
              have e14 := (e13.new (o := .lst [V.int 0, V.int 0, V.int ((o : Int) - 1)]) hl2).trans e4
              have hk4 := IsKs.held ((((Ext.refl H2).new (o := .lst [V.int 0, V.int 0, V.int ((o : Int) - 1)]) hl2).trans e4).held d3) ts rs hk3
              have hli4 : H3 li = some (.lst rs) := e4 _ _ nli (by rw [upd_ne (ne_of_none hli3 hl2)]; exact hli3)
              refine ⟨.int k, rfl, d, la, As, o', k, rfl, d4, e14 _ _ nA hA, nA, eA, zA, by omega, by omega, k1, by omega, fun v t H4 hv lo4 le4 in4 e5 d5 => ?_⟩
              refine asg_go ?_
              dsimp only
              have hk5 := IsKs.held (e5.held d4) ts rs hk4
              have hli5 : H4 li = some (.lst rs) := e5 _ _ nli hli4
              have hd6 : Held H4 (upd H4 li (.lst (rs ++ [v]))) := held_lst hli5
              refine ⟨.ref li, rfl, .inl ⟨rfl, _, SqL.of hli5⟩, v, rfl, li, rs, v, rfl, rfl, hli5, lt_line' (by omega), ?_⟩
              have e6 : Ext d H (upd H4 li (.lst (rs ++ [v]))) := (e14.trans e5).mut hli
              refine ⟨.int L, rfl, v, rfl, v, t, rfl, IsK.held hd6 t v hv, by omega, by omega, fun p5 H5 s5 np hp5 => ?_⟩
              refine ⟨.ref p5, _, rfl, .inl ⟨_, SqL.of hp5, rfl⟩, L, _, rfl, rfl, ?_⟩
              have lt_ : (Ty.placesL (ts ++ [t])).length = (Ty.placesL ts).length + t.places.length := by
                rw [Ty.placesL_append, Ty.placesL_cons, Ty.placesL_nil, List.append_nil, List.length_append]
              refine ⟨L - ((t.places.map V.str).length : Nat), _, _, _, ts ++ [t], rs ++ [v], rfl, ?_, ?_, s5 _ _ upd_same, ?_, ?_, ?_, fun u hu => ?_, fun x hx => ?_, e6.trans (Ext.same s5), (d5.mut nli).same s5⟩
              · rw [List.length_map]
                omega
              · rw [List.length_map, lt_]
                omega
              · exact (IsKs.held s5.held _ _ (IsKs.held hd6 ts rs hk5)).app (.cons (IsK.held s5.held _ _ (IsK.held hd6 t v hv)) .nil)
              · rw [List.length_append, List.length_append, ln]
                rfl
              · rw [List.length_append]
                show rs.length + 1 ≤ i + 1
                omega
              · rcases List.mem_append.mp hu with h | h
                · exact ords u h
                · rw [List.mem_singleton.mp h]
                  omega
              · rw [Ty.placesL_append, Ty.placesL_cons, Ty.placesL_nil, List.append_nil] at hx
                rcases List.mem_append.mp hx with h | h
                · exact ins x h
                · exact in4 x h
            · exact ⟨L, _, _, _, ts, rs, rfl, L0, Lm, hli1, hk, ln, by omega, ords, ins, e2, d2⟩
          · obtain ⟨L, s6, s7, s8, ts, rs, rfl, L0, Lm, hli1, hk, ln, li4, ords, ins, e2, d2⟩ := hP
            exact hN _ _ ⟨_, _, _, _, ts, rs, rfl, hli1, hk, ords, by omega, ins, e2, d2⟩
        · refine ⟨0, rfl, by decide, by decide, for_range (lo := 0) (fun i σ' H' => σ' = [some (.ref d), some (.ref la), some (.int o), some (.int m), some (.ref li), some (.int ((m : Int) - 1)), none, none, none] ∧ H' = upd H li (.lst [])) ⟨rfl, rfl⟩ (fun i σ' H' hi hP => absurd hi (Nat.not_lt_zero _)) (fun σ' H' hP => ?_)⟩
          obtain ⟨rfl, rfl⟩ := hP
          exact hN _ _ ⟨_, _, _, _, [], [], rfl, upd_same, .nil, fun _ h => (by cases h), by rw [Ty.placesL_nil]; exact m1, fun _ h => (by rw [Ty.placesL_nil] at h; cases h), e0, d0⟩
      rintro σ' H' ⟨s5, s6, s7, s8, ts, rs, rfl, hli', hk, ords, few, ins, e2, d2⟩
      refine ⟨.ref li, rfl, li, rs, rfl, .inl ⟨SqL.of hli', fun p1 hp1 => ?_⟩⟩
      refine ⟨.ref d, rfl, .ref la, rfl, d, la, As.map V.str, rfl, d2.new hp1, SqL.of ((e2.new hp1) _ _ nA hA), nA, by simpa using eA, by rw [List.length_map]; omega, fun x H3 hx e3 d3 => ⟨by show 2 ≤ sizeLine; decide, fun p2 hp2 => ?_⟩⟩
      obtain ⟨a, ha, rfl⟩ := mem_strs hx
      have np1 : p1 ≠ d := d2.ne hp1
      have hp13 : H3 p1 = some (.tup rs) := e3 _ _ np1 upd_same
      have e23 : Ext d H' H3 := ((Ext.refl H').new hp1).trans e3
      have pl : (Ty.mk ts a).places = Ty.placesL ts ++ [a] := by rw [Ty.places]
      refine q (.ref p2) (.mk ts a) _ ?_ (by rw [Ty.order]; exact Ty.orderL_le ts ords) (by rw [pl, List.length_append]; exact few) (fun x hx => ?_) ((e2.trans e23).new hp2) (d3.new hp2)
      · rw [IsK]
        exact ⟨p2, p1, rs, rfl, upd_same, by rw [upd_ne (ne_of_none hp13 hp2)]; exact hp13, IsKs.held (((e23.new hp2)).held d2) ts rs hk⟩
      · rw [pl] at hx
        rcases List.mem_append.mp hx with h | h
        · exact ins x h
        · rw [List.mem_singleton.mp h]
          exact ha
end


end My
namespace My
open PySem PySem.Spec PyProof.Rows L2 TL
set_option pp.maxSteps 3000
set_option pp.deepTerms false
theorem intBits_le (x : Int) {n : Nat} (h : x.natAbs < 2 ^ n) (h0 : 0 < n) : Builtin.Int.intBits x ≤ n := by
  have e := PySem.Flt.log2_lt_of h0 h
  unfold Builtin.Int.intBits
  split <;> omega
section
variable {P : Program} {w : World} {K : PySem.W.Frag} {mg : Str → Option Value} {base : Heap}
theorem ok__law_roll (T : Txt K mg C_Type) {f : Addr} {fd : FuncData} (F : Fun K "_law_roll" "_law_roll" s__law_roll f fd) : FnOk P w K mg base CX0 1 f fd ["_law_dice_here", "_law_total"] (sp__law_roll K) := by
  have nd := sc__law_roll.nd
  refine F.ok sc__law_roll (fun vs H Q E h => ?_) (fun cdv A outer s H vs Q E hr h => ?_)
  · obtain ⟨d, n, rfl, _⟩ := h
    rfl
  · obtain ⟨d, n, rfl, ⟨a, b, c, hd⟩, h0, h1, q⟩ := h
    refine ⟨_, (pss_cons (ps_if (pt_cmpR op_gt (pe_ix ix_list (pv 0) pe_int (fun _ _ => rfl)) pe_int (nomark _)) (pss_cons (ps_set (i := 2) nd rfl (.inl rfl) (pe_op op_mod (pe_callTy call_int1 (by rfl) T.b_int (by decide +kernel) (pa_cons (pe_ix ix_list (pv 0) pe_int (fun _ _ => rfl)) pa_nil)) (pv 1)))
      (pss_cons (ps_asg (pe_op op_fdiv (pe_ix ix_list (pv 0) pe_int (fun _ _ => rfl)) (pv 1)) (pg_sub (pv 0) pe_int set_list))
      (pss_one (ps_ret (pv 2))))) pss_nil)
      (pss_cons (ps_asg (pe_op op_add (pe_ix ix_list (pv 0) pe_int (fun _ _ => rfl)) pe_int) (pg_sub (pv 0) pe_int set_list))
      (pss_cons (ps_set (i := 3) nd rfl (.inl rfl) (pe_op op_mod (pe_callTy call_int1 (by rfl) T.b_int (by decide +kernel) (pa_cons (pe_op op_add (pe_ix ix_list (pv 0) pe_int (fun _ _ => rfl)) (pe_op op_mul pe_int (pe_ix ix_list (pv 0) pe_int (fun _ _ => rfl)))) pa_nil)) pe_int))
      (pss_cons (ps_set (i := 4) nd rfl (.inl rfl) (pe_op op_add (pe_op op_mul (pe_op op_mod (pe_callTy call_int1 (by rfl) T.b_int (by decide +kernel) (pa_cons (pe_op op_mul (pv 3) (pv 3)) pa_nil)) pe_int) (pv 3)) (pe_op op_mul pe_int (pe_ix ix_list (pv 0) pe_int (fun _ _ => rfl)))))
      (pss_cons (ps_set (i := 4) nd rfl (.inl rfl) (pe_op op_mod (pe_callTy call_int1 (by rfl) T.b_int (by decide +kernel) (pa_cons (pv 4) pa_nil)) pe_int))
      (pss_one (ps_ret (pe_op op_mod (pe_callTy call_int1 (by rfl) T.b_int (by decide +kernel) (pa_cons (pe_op op_fdiv (pv 4) pe_int) pa_nil)) (pv 1))))))))), ?_⟩
    have g0 : SqL K H d [.int a, .int b, .int c] := SqL.of hd
    refine ⟨.ref d, rfl, d, _, 0, _, rfl, rfl, g0, rfl, a, 0, rfl, rfl, _, rfl, ?_⟩
    refine ite2 (fun _ => ?_) (fun _ => ?_)
    · refine ⟨.ref d, rfl, d, _, 0, _, rfl, rfl, g0, rfl, .inl ⟨a, rfl, .int n, rfl, a, n, rfl, rfl, h0, ?_⟩⟩
      refine ⟨.ref d, rfl, d, _, 0, _, rfl, rfl, g0, rfl, .int n, rfl, a, n, rfl, rfl, ⟨h0, h1⟩, ?_⟩
      refine ⟨.ref d, rfl, d, _, 0, 0, rfl, rfl, hd, rfl, ?_⟩
      refine ⟨.int (a % n), rfl, ?_⟩
      exact q _ _ (Int.emod_nonneg _ (by omega)) (Int.emod_lt_of_pos _ h0) Ext.set ⟨_, _, _, upd_same⟩
    · refine ⟨.ref d, rfl, d, _, 2, _, rfl, rfl, g0, rfl, c, 1, rfl, rfl, ?_⟩
      refine ⟨.ref d, rfl, d, _, 2, 2, rfl, rfl, hd, rfl, ?_⟩
      have g2 : SqL K (upd H d (.lst [.int a, .int b, .int (c + 1)])) d [.int a, .int b, .int (c + 1)] := SqL.of upd_same
      refine ⟨.ref d, rfl, d, _, 1, _, rfl, rfl, g2, rfl, .ref d, rfl, d, _, 2, _, rfl, rfl, g2, rfl, 998244293, c + 1, rfl, rfl, .inl ⟨by decide, by decide⟩, b, _, rfl, rfl, ?_⟩
      refine .inl ⟨_, rfl, _, _, rfl, rfl, (show (0 : Int) < 2305843009213693951 by decide), ?_⟩
      have x0 : 0 ≤ (b + 998244293 * (c + 1)) % 2305843009213693951 := Int.emod_nonneg _ (by decide)
      have x1 : (b + 998244293 * (c + 1)) % 2305843009213693951 < 2305843009213693951 := Int.emod_lt_of_pos _ (by decide)
      have xm : -(2 ^ 64 : Int) < (b + 998244293 * (c + 1)) % 2305843009213693951 ∧ (b + 998244293 * (c + 1)) % 2305843009213693951 < 2 ^ 64 := ⟨by omega, by omega⟩
      refine ⟨_, rfl, _, rfl, _, _, rfl, rfl, .inl xm, .inl ⟨_, rfl, _, _, rfl, rfl, (show (0 : Int) < 2305843009213693921 by decide), ?_⟩⟩
      refine ⟨_, rfl, _, _, rfl, rfl, .inr xm, ?_⟩
      refine ⟨.ref d, rfl, d, _, 2, _, rfl, rfl, g2, rfl, 9413, c + 1, rfl, rfl, .inl ⟨by decide, by decide⟩, _, _, rfl, rfl, ?_⟩
      refine ⟨_, rfl, .inl ⟨_, rfl, _, _, rfl, rfl, (show (0 : Int) < 2305843009213693669 by decide), ?_⟩⟩
      refine ⟨_, rfl, _, _, rfl, rfl, ⟨(show (0 : Int) < 8192 by decide), (show (8192 : Int) < 1073741824 by decide)⟩, .inl ⟨_, rfl, .int n, rfl, _, n, rfl, rfl, h0, ?_⟩⟩
      exact q _ _ (Int.emod_nonneg _ (by omega)) (Int.emod_lt_of_pos _ h0) Ext.set ⟨_, _, _, upd_same⟩
theorem ok__law_pick (T : Txt K mg C_Type) (c__law_roll : CalN P w K mg base "_law_roll" 1 ["_law_dice_here", "_law_total"] (sp__law_roll K)) {f : Addr} {fd : FuncData} (F : Fun K "_law_pick" "_law_pick" s__law_pick f fd) : FnOk P w K mg base CX0 2 f fd ["_law_dice_here", "_law_items"] (sp__law_pick K) := by
  have nd := sc__law_pick.nd
  refine F.ok sc__law_pick (fun vs H Q E h => ?_) (fun cdv A outer s H vs Q E hr h => ?_)
  · obtain ⟨d, l, xs, rfl, _⟩ := h
    rfl
  · obtain ⟨d, l, xs, rfl, hd, hl, ne, xne, hz, q⟩ := h
    refine ⟨_, (pss_one (ps_ret (pe_ix ix_list (pv 1) (pe_callN c__law_roll (hr.mono (by first | decide | omega)) rfl (pa_cons (pv 0) (pa_cons (pe_callB call_len (by rfl) T.b_len (by decide +kernel) (pa_cons (pv 1) pa_nil)) pa_nil))) (fun _ _ => rfl)))), ?_⟩
    have h1 : 0 < xs.length := List.length_pos_iff.mpr xne
    refine ⟨.ref l, rfl, .ref d, rfl, .ref l, rfl, .ref l, xs.length, rfl, .inl ⟨xs, hl, rfl⟩, ?_⟩
    refine ⟨d, (xs.length : Int), rfl, hd, by omega, by omega, fun r H' r0 r1 e dd => ?_⟩
    have hr' : r.toNat < xs.length := by omega
    have er : r = (r.toNat : Int) := by omega
    refine ⟨l, xs, r, xs[r.toNat], rfl, rfl, sql_ext e ne hl, ?_, ?_⟩
    · have g := atI_nat (List.getElem?_eq_getElem hr')
      rw [← er] at g
      exact g
    · exact q _ _ (List.getElem_mem hr') e dd
end

section
variable {P : Program} {w : World} {K : PySem.W.Frag} {mg : Str → Option Value} {base : Heap}
theorem ok__law_dice (T : Txt K mg C_Type) {f : Addr} {fd : FuncData} (F : Fun K "_law_dice" "_law_dice" s__law_dice f fd) : FnOk P w K mg base CX0 1 f fd ["_law_script", "_law_spot"] (sp__law_dice K) := by
  have nd := sc__law_dice.nd
  refine F.ok sc__law_dice (fun vs H Q E h => ?_) (fun cdv A outer s H vs Q E hr h => ?_)
  · obtain ⟨a, ns, i, rfl, _⟩ := h
    rfl
  · obtain ⟨a, ns, i', rfl, hS, hi0, hi, q⟩ := h
    obtain ⟨i, rfl⟩ := Int.eq_ofNat_of_zero_le hi0
    refine ⟨_, (pss_cons (ps_set (i := 2) nd rfl (.inl rfl) (pe_op op_add (pe_op op_mul pe_int (pv 1)) pe_int))
      (pss_cons (ps_if (pt_cmpR op_lt (pv 1) (pe_callB call_len (by rfl) T.b_len (by decide +kernel) (pa_cons (pv 0) pa_nil)) (nomark _)) (pss_one (ps_set (i := 2) nd rfl (.inl rfl) (pe_ix ix_list (pv 0) (pv 1) (fun _ _ => rfl)))) pss_nil)
      (pss_cons (ps_set (i := 3) nd rfl (.inl rfl) (pe_op op_mod (pe_callTy call_int1 (by rfl) T.b_int (by decide +kernel) (pa_cons (pe_callB call_abs (by rfl) T.b_abs (by decide +kernel) (pa_cons (pv 2) pa_nil)) pa_nil)) (pe_op op_powW (pe_op op_powW pe_int pe_int) pe_int)))
      (pss_cons (ps_set (i := 4) nd rfl (.inl rfl) (pe_op op_add (pe_op op_add (pe_op op_add (pe_op op_mul (pe_op op_mod (pe_callTy call_int1 (by rfl) T.b_int (by decide +kernel) (pa_cons (pv 3) pa_nil)) pe_int) pe_int) (pe_op op_mul pe_int (pv 1))) (pe_op op_mul pe_int (pe_callTy call_int1 (by rfl) T.b_int (by decide +kernel) (pa_cons (pe_cmpR op_lt (pv 2) pe_int (nomark _)) pa_nil)))) pe_int))
      (pss_one (ps_ret (pe_lst (pa_cons (pe_callB (call_max2 rfl) (by rfl) T.b_max (by decide +kernel) (pa_cons pe_int (pa_cons (pe_op op_sub (pv 3) (pe_op op_powW pe_int pe_int)) pa_nil))) (pa_cons (pe_op op_mod (pe_callTy call_int1 (by rfl) T.b_int (by decide +kernel) (pa_cons (pv 4) pa_nil)) pe_int) (pa_cons pe_int pa_nil)))))))))), ?_⟩
    refine ⟨.int i, rfl, _, _, rfl, rfl, .inl ⟨by decide, by decide⟩, _, _, rfl, rfl, ?_⟩
    refine ⟨.int i, rfl, .ref a, rfl, .ref a, _, rfl, .inl ⟨_, hS, rfl⟩, _, _, rfl, rfl, _, rfl, ?_⟩
    have p1 : (0 : Int) < (10 ^ 60) ^ 10 := by decide +kernel
    have p2 : (0 : Int) < 2305843009213693669 := by decide
    refine ite2 (fun hlt => ?_) (fun _ => ?_)
    · have hlt' : i < ns.length := by
        have := of_decide_eq_true hlt
        rw [List.length_map] at this
        omega
      refine ⟨.ref a, rfl, .int i, rfl, a, _, _, .int ns[i], rfl, rfl, hS, atI_nat (by rw [List.getElem?_map, List.getElem?_eq_getElem hlt']; rfl), ?_⟩
      refine ⟨_, rfl, _, rfl, .inl ⟨_, rfl, 10, 60, rfl, rfl, ⟨by decide, by decide +kernel⟩, _, 10, rfl, rfl, ⟨by decide, by decide +kernel⟩, _, _, rfl, rfl, p1, ?_⟩⟩
      refine ⟨_, rfl, .inl ⟨_, rfl, _, _, rfl, rfl, p2, _, _, rfl, rfl, .inr ⟨by decide, by decide⟩, .int i, rfl, _, _, rfl, rfl, .inl ⟨by decide, by decide⟩, _, _, rfl, rfl, ?_⟩⟩
      refine ⟨_, rfl, _, _, rfl, rfl, .inr ⟨_, rfl, _, _, rfl, rfl, .inl ⟨by decide, by decide⟩, _, _, rfl, rfl, _, _, rfl, rfl, ?_⟩⟩
      refine ⟨_, rfl, 10, 18, rfl, rfl, ⟨by decide, by decide +kernel⟩, _, _, rfl, rfl, _, _, rfl, _, rfl, .inl ⟨_, rfl, _, _, rfl, rfl, p2, by show 3 ≤ sizeLine; decide, fun p hp => q p _ hp ⟨_, _, _, upd_same⟩⟩⟩
    · refine ⟨_, rfl, _, rfl, .inl ⟨_, rfl, 10, 60, rfl, rfl, ⟨by decide, by decide +kernel⟩, _, 10, rfl, rfl, ⟨by decide, by decide +kernel⟩, _, _, rfl, rfl, p1, ?_⟩⟩
      refine ⟨_, rfl, .inl ⟨_, rfl, _, _, rfl, rfl, p2, _, _, rfl, rfl, .inr ⟨by decide, by decide⟩, .int i, rfl, _, _, rfl, rfl, .inl ⟨by decide, by decide⟩, _, _, rfl, rfl, ?_⟩⟩
      refine ⟨_, rfl, _, _, rfl, rfl, .inr ⟨_, rfl, _, _, rfl, rfl, .inl ⟨by decide, by decide⟩, _, _, rfl, rfl, _, _, rfl, rfl, ?_⟩⟩
      refine ⟨_, rfl, 10, 18, rfl, rfl, ⟨by decide, by decide +kernel⟩, _, _, rfl, rfl, _, _, rfl, _, rfl, .inl ⟨_, rfl, _, _, rfl, rfl, p2, by show 3 ≤ sizeLine; decide, fun p hp => q p _ hp ⟨_, _, _, upd_same⟩⟩⟩
end


end My
namespace My
open PySem PySem.Spec PyProof.Rows L2 TL
set_option pp.maxSteps 3000
namespace Ty
theorem orderL_of' (t : Ty) : t.order = orderL t.ins := by cases t; rw [order]; rfl
theorem order_at (t : Ty) : t.order = orderL t.ins := by cases t; rw [order]; rfl
theorem order_max (t : Ty) (m : Int) (h0 : t.ins.map (fun t => ((t.order : Nat) : Int)) = [] → m = -1) (h1 : t.ins.map (fun t => ((t.order : Nat) : Int)) ≠ [] → m ∈ t.ins.map (fun t => ((t.order : Nat) : Int)) ∧ ∀ y ∈ t.ins.map (fun t => ((t.order : Nat) : Int)), y ≤ m) : ((t.order : Nat) : Int) = 1 + m := by
  have e := orderL_max t.ins (m + 1) (fun h => by
    have : t.ins = [] := List.map_eq_nil_iff.mp h
    rw [h0 (by rw [this]; rfl)]
    rfl) (fun h => by
    have ne : t.ins.map (fun t => ((t.order : Nat) : Int)) ≠ [] := fun z => h (by rw [List.map_eq_nil_iff.mp z]; rfl)
    obtain ⟨a, b⟩ := h1 ne
    obtain ⟨u, hu, eu⟩ := List.mem_map.mp a
    refine ⟨List.mem_map.mpr ⟨u, hu, by rw [← eu]⟩, fun y hy => ?_⟩
    obtain ⟨u2, hu2, eu2⟩ := List.mem_map.mp hy
    have := b _ (List.mem_map.mpr ⟨u2, hu2, rfl⟩)
    omega)
  rw [order_at]
  omega
end Ty

/-! ### a row of texts in order, no two alike, is settled by its members -/
theorem lt_trans_no : ∀ a b c : List Nat, ltCps b a = false → ltCps c b = false → ltCps c a = false
  | [], _, c, _, _ => by cases c <;> rfl
  | x :: r, [], _, h, _ => by cases h
  | x :: r, y :: s, [], _, h => by cases h
  | x :: r, y :: s, z :: t, h1, h2 => by
    unfold ltCps at h1 h2 ⊢
    simp only [Bool.or_eq_false_iff, Bool.and_eq_false_iff, decide_eq_false_iff_not, beq_eq_false_iff_ne] at h1 h2 ⊢
    obtain ⟨a1, a2⟩ := h1
    obtain ⟨b1, b2⟩ := h2
    refine ⟨by omega, ?_⟩
    by_cases e : z = x
    · have e1 : y = x := by omega
      have e2 : z = y := by omega
      exact .inr (lt_trans_no r s t (a2.resolve_left fun k => k e1) (b2.resolve_left fun k => k e2))
    · exact .inl e
theorem lt_both_no : ∀ a b : List Nat, ltCps a b = false → ltCps b a = false → a = b
  | [], [], _, _ => rfl
  | [], _ :: _, h, _ => by cases h
  | _ :: _, [], _, h => by cases h
  | x :: r, y :: s, h1, h2 => by
    unfold ltCps at h1 h2
    simp only [Bool.or_eq_false_iff, Bool.and_eq_false_iff, decide_eq_false_iff_not, beq_eq_false_iff_ne] at h1 h2
    obtain ⟨a1, a2⟩ := h1
    obtain ⟨b1, b2⟩ := h2
    have e : x = y := by omega
    rw [e, lt_both_no r s (a2.resolve_left fun k => k e) (b2.resolve_left fun k => k e.symm)]
theorem rising_all : ∀ (p : Str) (l : List Str), risingS p l = true → ∀ x ∈ l, ltCps x.cps.toList p.cps.toList = false
  | _, [], _, _, h => by cases h
  | p, y :: r, h, x, hx => by
    unfold risingS at h
    obtain ⟨h1, h2⟩ := Bool.and_eq_true_iff.mp h
    have h1 : ltCps y.cps.toList p.cps.toList = false := by simpa using h1
    rcases List.mem_cons.mp hx with rfl | hx
    · exact h1
    · exact lt_trans_no _ _ _ h1 (rising_all y r h2 x hx)
theorem rising_tail {p : Str} : ∀ {l : List Str}, risingS p l = true → sortedS l = true
  | [], _ => rfl
  | y :: r, h => by
    unfold risingS at h
    exact (Bool.and_eq_true_iff.mp h).2
theorem sorted_one : ∀ (ys zs : List Str), sortedS ys = true → sortedS zs = true → ys.Nodup → zs.Nodup → (∀ x, x ∈ ys ↔ x ∈ zs) → ys = zs
  | [], [], _, _, _, _, _ => rfl
  | [], z :: t, _, _, _, _, h => by cases (h z).mpr (List.mem_cons_self ..)
  | x :: r, [], _, _, _, _, h => by cases (h x).mp (List.mem_cons_self ..)
  | x :: r, z :: t, sy, sz, ny, nz, h => by
    have hx := rising_all x r sy
    have hz := rising_all z t sz
    have self : ∀ a : List Nat, ltCps a a = false := by
      intro a
      induction a with
      | nil => rfl
      | cons n r ih => unfold ltCps; simp [ih]
    have e : x = z := by
      have e1 : ltCps x.cps.toList z.cps.toList = false := by
        rcases List.mem_cons.mp ((h x).mp (List.mem_cons_self ..)) with k | k
        · rw [k]; exact self _
        · exact hz x k
      have e2 : ltCps z.cps.toList x.cps.toList = false := by
        rcases List.mem_cons.mp ((h z).mpr (List.mem_cons_self ..)) with k | k
        · rw [k]; exact self _
        · exact hx z k
      have e3 := lt_both_no _ _ e1 e2
      cases x
      cases z
      exact congrArg _ (Array.toList_inj.mp e3)
    subst e
    obtain ⟨n1, n2⟩ := List.nodup_cons.mp ny
    obtain ⟨m1, m2⟩ := List.nodup_cons.mp nz
    rw [sorted_one r t (rising_tail sy) (rising_tail sz) n2 m2 fun u => ⟨fun k => ?_, fun k => ?_⟩]
    · rcases List.mem_cons.mp ((h u).mp (List.mem_cons_of_mem _ k)) with e | e
      · exact absurd (e ▸ k) n1
      · exact e
    · rcases List.mem_cons.mp ((h u).mpr (List.mem_cons_of_mem _ k)) with e | e
      · exact absurd (e ▸ k) m1
      · exact e


end My
namespace My
open PySem PySem.Spec PyProof.Rows L2 TL
namespace Ty
theorem places_sub {l : List Ty} {t : Ty} (h : t ∈ l) : ∀ x ∈ t.places, x ∈ placesL l := by
  induction l with
  | nil => cases h
  | cons u r ih =>
    intro x hx
    rw [placesL_cons]
    rcases List.mem_cons.mp h with rfl | h
    · exact List.mem_append_left _ hx
    · exact List.mem_append_right _ (ih h x hx)
end Ty


end My
namespace My
open PySem PySem.Spec PyProof.Rows L2 TL
set_option pp.maxSteps 3000
set_option pp.deepTerms false
/-! ### kinds of the law as data -/
mutual
/-- a kind of the law as data -/
def kd : Ty → PyData
  | .mk i a => .tuple [.tuple (kdL i), .str a]
def kdL : List Ty → List PyData
  | [] => []
  | t :: r => kd t :: kdL r
end
mutual
theorem IsK.dp {K : PySem.W.Frag} {H : Hp} : ∀ (t : Ty) (v : V), IsK H t v → Dp K H v (kd t)
  | .mk i a, v, h => by
    rw [IsK] at h
    obtain ⟨p, q, rs, rfl, hp, hq, hi⟩ := h
    rw [kd]
    exact .tup (SqT.of hp) (.cons (.tup (SqT.of hq) (IsKs.dp i rs hi)) (.cons (.str a) .nil))
theorem IsKs.dp {K : PySem.W.Frag} {H : Hp} : ∀ (l : List Ty) (rs : List V), IsKs H l rs → DpAll K H rs (kdL l)
  | [], rs, h => by
    rw [IsKs] at h
    rw [h, kdL]
    exact .nil
  | t :: r, rs, h => by
    rw [IsKs] at h
    obtain ⟨v, vs, rfl, h1, h2⟩ := h
    rw [kdL]
    exact .cons (IsK.dp t v h1) (IsKs.dp r vs h2)
end
mutual
theorem kd_lay : ∀ t : Ty, (∀ a ∈ t.places, PyData.strOk a = true) → (kd t).canLay0 = true ∧ (kd t).depth ≤ 2 * t.order + 2
  | .mk i a, h => by
    rw [Ty.places] at h
    obtain ⟨h1, h2⟩ := kdL_lay i fun b hb => h b (List.mem_append_left _ hb)
    have h3 := h a (List.mem_append_right _ (List.mem_singleton.mpr rfl))
    rw [kd, Ty.order]
    constructor
    · rw [PyData.canLay0, PyData.canLayAll0, PyData.canLayAll0, PyData.canLayAll0, PyData.canLay0, PyData.canLay0, h1, h3]
      rfl
    · rw [PyData.depth, PyData.depthAll, PyData.depthAll, PyData.depthAll, PyData.depth, PyData.depth]
      omega
theorem kdL_lay : ∀ l : List Ty, (∀ a ∈ Ty.placesL l, PyData.strOk a = true) → PyData.canLayAll0 (kdL l) = true ∧ PyData.depthAll (kdL l) ≤ 2 * Ty.orderL l
  | [], h => by
    rw [kdL]
    exact ⟨rfl, Nat.zero_le _⟩
  | t :: r, h => by
    rw [Ty.placesL_cons] at h
    obtain ⟨h1, h2⟩ := kd_lay t fun b hb => h b (List.mem_append_left _ hb)
    obtain ⟨h3, h4⟩ := kdL_lay r fun b hb => h b (List.mem_append_right _ hb)
    rw [kdL, Ty.orderL]
    constructor
    · rw [PyData.canLayAll0, h1, h3]
      rfl
    · rw [PyData.depthAll]
      omega
end
theorem kd_empty (l : List Ty) : PyData.eqv (.tuple (kdL l)) (.tuple []) = l.isEmpty := by
  cases l with
  | nil => rw [kdL]; rfl
  | cons t r => rw [kdL]; rfl


end My
namespace My
open PySem PySem.Spec PyProof.Rows L2 TL
set_option pp.maxSteps 3000
set_option pp.deepTerms false
/-! ### the text of a kind, by the law -/
def spr__law_text (n : Nat) (_ : PySem.W.Frag) : Sp := fun vs H Q _ => ∃ v t, vs = [v] ∧ IsK H t v ∧ t.order < n ∧ t.Fits ∧ ∀ H', Same H H' → Q (.str t.text) H'
def sp__law_text (K : PySem.W.Frag) : Sp := spr__law_text 6 K
theorem kd_shaped {t : Ty} (f : t.Fits) : SeqAt.shaped (.tuple (kdL t.ins)) = true := by
  obtain ⟨h1, h2⟩ := kdL_lay t.ins fun a ha => strOk_ascii (f.words a (by rw [Ty.places_at]; exact List.mem_append_left _ ha)).2
  have o : Ty.orderL t.ins ≤ 4 := by
    have := f.low
    cases t
    rw [Ty.order] at this
    exact this
  unfold SeqAt.shaped
  rw [PyData.canLay0, PyData.depth, h1]
  simp
  omega
section
variable {P : Program} {w : World} {K : PySem.W.Frag} {mg : Str → Option Value} {base : Heap} {C_Type : Addr}
theorem ok__law_text (T : Txt K mg C_Type) {f : Addr} {fd : FuncData} (F : Fun K "_law_text" "_law_text" s__law_text f fd) (M : mg "_law_text" = some (.ref f)) (B : Binds K fd ["_law_kind_here"] []) : ∀ n : Nat, FnOk P w K mg base CX0 (1 + n) f fd ["_law_kind_here"] (spr__law_text n K)
  | 0 => by
    refine F.ok sc__law_text (fun vs H Q E h => ?_) (fun cdv A outer s H vs Q E hr h => ?_) <;> (obtain ⟨_, _, _, _, z, _⟩ := h; exact absurd z (Nat.not_lt_zero _))
  | n + 1 => by
    have ih := ok__law_text T F M B n
    have C_self : CalN P w K mg base "_law_text" (1 + n) ["_law_kind_here"] (spr__law_text n K) := ⟨f, fd, ih, M, F.kp, B⟩
    have nd := sc__law_text.nd
    refine F.ok sc__law_text (fun vs H Q E h => ?_) (fun cdv A outer s H vs Q E hr h => ?_)
    · obtain ⟨v, t, rfl, _⟩ := h
      rfl
    · obtain ⟨v, t, rfl, ht, lo, ft, q⟩ := h
      have hr : Room (1 + n) (A.deeper (envOfC "_law_text" (defScope s__law_text) s.heap.objs.size f cdv)) := by
        exact hr
      refine ⟨_, (pss_cons (ps_set (i := 1) nd rfl (.inl rfl) (pe_lst pa_nil))
      (pss_cons (ps_for PassesOwn.never rfl (pi_tup (pe_ix ix_tup (pv 0) pe_int (fun _ _ => rfl))) (pg_name (i := 2) nd rfl (.inl rfl)) (pss_one (ps_expr (pe_bm PySem.F.plainAttrs_list PySem.F.slot_list_append PySem.F.type_list_append mt_append (pv 1) (pa_cons (pe_ifExp (pt_cmpR (op_eqD hr.units) (pe_ix ix_tup (pv 2) pe_int (fun _ _ => rfl)) (pe_tup pa_nil) (nomark _)) (pe_callN C_self (hr.mono (by first | decide | omega)) rfl (pa_cons (pv 2) pa_nil)) (pe_op op_add_str (pe_op op_add_str pe_str (pe_callN C_self (hr.mono (by first | decide | omega)) rfl (pa_cons (pv 2) pa_nil))) pe_str)) pa_nil)))))
      (pss_one (ps_ret (pe_join pe_str (pe_op op_cat (pv 1) (pe_lst (pa_cons (pe_ix ix_tup (pv 0) pe_int (fun _ _ => rfl)) pa_nil)))))))), ?_⟩
      obtain ⟨p, q', rs, rfl, hp, hq, hk⟩ := ht.at
      have lr := hk.len
      have ft' : (Ty.mk t.ins t.atom).Fits := by rw [Ty.mk_eta]; exact ft
      have eo : t.order = Ty.orderL t.ins := by cases t; rw [Ty.order]; rfl
      have few := Fits_ins_len ft
      refine ⟨Nat.zero_le _, fun l1 hl1 => ?_⟩
      have s1 : Same H (upd H l1 (.lst [])) := (Same.refl H).new hl1
      refine asg_go ?_
      dsimp only
      refine ⟨.ref p, rfl, p, _, 0, _, rfl, rfl, SqT.of (s1 _ _ hp), rfl, q', rfl, ⟨rs, SqT.of (s1 _ _ hq)⟩, ?_⟩
      refine for_tup (xs := rs) (fun i σ' H' => (∃ s2, σ' = [some (.ref p), some (.ref l1), s2]) ∧ H' l1 = some (.lst (((t.ins.take i).map Ty.inside).map V.str)) ∧ Same H H') ?_ (fun i σ' H' _ hP => SqT.of (hP.2.2 _ _ hq)) (fun i y σ' H' hy hP => ?_) (fun σ' H' hP => ?_)
      · exact ⟨⟨none, rfl⟩, by rw [upd_same, List.take_zero]; rfl, s1⟩
      · obtain ⟨⟨s2, rfl⟩, hl, sm⟩ := hP
        obtain ⟨s, es, hs⟩ := hk.get hy
        have sm' := List.mem_of_getElem? es
        have lo' : s.order < n := by
          have := Ty.low_ins sm'
          omega
        have fs := ft'.ins sm'
        have hs1 := IsK.held sm.held s y hs
        obtain ⟨py, qy, ry, rfl, hpy, hqy, hky⟩ := hs1.at
        have io := lt_of_get hy
        rw [lr] at io
        have txl := Ty.text_small fs.words fs.few
        refine ⟨.ref l1, rfl, .inl ⟨rfl, _, SqL.of hl⟩, .ref py, rfl, py, _, 0, _, rfl, rfl, SqT.of hpy, rfl, Nat.zero_le _, fun e he => ?_⟩
        have se : Same H' (upd H' e (.tup [])) := (Same.refl H').new he
        refine ⟨.tuple (kdL s.ins), .tuple [], .tup (SqT.of (se _ _ hqy)) (IsKs.dp _ _ (IsKs.held se.held _ _ hky)), .tup (SqT.of upd_same) .nil, kd_shaped fs, by decide +kernel, s.ins.isEmpty, congrArg V.bl (kd_empty s.ins), ?_⟩
        have fin : ∀ H2, Same (upd H' e (.tup [])) H2 → rAppend (.ref l1) [.str s.inside] H2 (fun _ H3 => (∃ s2, ([some (.ref p), some (.ref l1), s2] : L2.St).set 2 (some (.ref py)) = [some (.ref p), some (.ref l1), some (.ref py)]) ∧ H3 l1 = some (.lst (((t.ins.take (i + 1)).map Ty.inside).map V.str)) ∧ Same H H3) := fun H2 s4 => by
          refine ⟨l1, _, .str s.inside, rfl, rfl, s4 _ _ (se _ _ hl), lt_line' (by rw [List.length_map, List.length_map, List.length_take]; omega), ⟨s2, rfl⟩, ?_, (sm.trans (se.trans s4)).mut hl1⟩
          rw [upd_same, take_next es, List.map_append, List.map_append]
          rfl
        cases hc : s.ins.isEmpty with
        | true =>
          refine iteT ?_
          refine ⟨.ref py, rfl, .ref py, s, rfl, IsK.held se.held s _ hs1, lo', fs, fun H2 s4 => ?_⟩
          obtain ⟨l', xs', v', e1, e2, e3, e4, -, e5, e6⟩ := fin H2 s4
          have ei : s.inside = s.text := by rw [Ty.inside, if_pos hc]
          rw [ei] at e2
          refine ⟨l', xs', v', e1, e2, e3, e4, ⟨_, rfl⟩, e5, e6⟩
        | false =>
          refine iteF ?_
          refine ⟨.ref py, rfl, .ref py, s, rfl, IsK.held se.held s _ hs1, lo', fs, fun H2 s4 => ⟨"(", s.text, rfl, rfl, ?_, "(" ++ s.text, ")", rfl, rfl, ?_, ?_⟩⟩
          · exact lt_line (by have : (("(" : Str)).length = 1 := by decide +kernel
                              omega)
          · rw [app_len]
            exact lt_line (by have h1 : (("(" : Str)).length = 1 := by decide +kernel
                              have h2 : ((")" : Str)).length = 1 := by decide +kernel
                              omega)
          obtain ⟨l', xs', v', e1, e2, e3, e4, -, e5, e6⟩ := fin H2 s4
          have ei : s.inside = ("(" : Str) ++ s.text ++ (")" : Str) := by rw [Ty.inside, if_neg (by rw [hc]; decide)]
          rw [ei] at e2
          exact ⟨l', xs', v', e1, e2, e3, e4, ⟨_, rfl⟩, e5, e6⟩
      · obtain ⟨⟨s2, rfl⟩, hl, sm⟩ := hP
        rw [lr, List.take_length, ← Ty.insideL_map] at hl
        have ln : (Ty.insideL t.ins).length = t.ins.length := by rw [Ty.insideL_map, List.length_map]
        refine ⟨⟨" -> ", rfl⟩, .ref l1, rfl, .ref p, rfl, p, _, 1, _, rfl, rfl, SqT.of (sm _ _ hp), rfl, by show 1 ≤ sizeLine; decide, fun d1 h1 => ⟨l1, d1, _, [.str t.atom], rfl, rfl, by rw [upd_ne (ne_of_none hl h1)]; exact hl, upd_same, lt_line (by rw [List.length_map]; show _ + 1 ≤ _; omega), fun d2 h2 => ?_⟩⟩
        have s9 := (sm.new (o := .lst [.str t.atom]) h1).new (o := .lst ((Ty.insideL t.ins).map V.str ++ [.str t.atom])) h2
        refine ⟨" -> ", d2, Ty.insideL t.ins ++ [t.atom], rfl, rfl, .inl (SqL.of ?_), ?_, ?_⟩
        · rw [upd_same, List.map_append]
          rfl
        · have i1 := Ty.insideL_len t.ins (fun b hb => (isW_len (ft.words b (by rw [Ty.places_at]; exact List.mem_append_left _ hb)).1).2)
          have i2 := (isW_len (ft.words t.atom (by rw [Ty.places_at]; exact List.mem_append_right _ (List.mem_singleton.mpr rfl))).1).2
          have i3 : (Ty.placesL t.ins).length + 1 ≤ 15 := by
            have := ft.few
            rw [Ty.places_at, List.length_append] at this
            exact this
          have i4 : ((" -> " : Str)).length = 4 := by decide +kernel
          rw [List.map_append, List.sum_append, List.length_append, i4, ln]
          show _ + (t.atom.length + 0) + (_ + 1) * 4 ≤ _
          omega
        · have et : t.text = Txt.join " -> " (Ty.insideL t.ins ++ [t.atom]) := by cases t; rw [Ty.text]; rfl
          rw [← et]
          exact q _ s9
end


end My
namespace My
open PySem PySem.Spec PyProof.Rows L2 TL
set_option pp.maxSteps 3000
/-! ### a text taken a number of times -/
def repT (x : Str) (n : Int) : Str := if n < 1 then Str.empty else if (n == 1 || x.length == 0) = true then x else ⟨(List.replicate n.toNat x.cps).foldl (· ++ ·) #[]⟩
def rRepT : R2 := fun x y H Q => ∃ a n, x = .str a ∧ y = .int n ∧ a.length ≤ 10 ∧ 0 ≤ n ∧ n ≤ 1000 ∧ Q (.str (repT a n)) H
theorem fold_sizeT {α : Type} (c : Array α) : ∀ (m : Nat) (acc : Array α), ((List.replicate m c).foldl (· ++ ·) acc).size = acc.size + m * c.size
  | 0, acc => by simp
  | m + 1, acc => by
    rw [List.replicate_succ, List.foldl_cons, fold_sizeT c m, Array.size_append, Nat.succ_mul]
    omega
section
variable {X : Cx}
theorem op_repT : OpR X (binaryOp .Mult) rRepT := by
  intro pins s σ H x y v u Q I rx ry h
  obtain ⟨a, n, rfl, rfl, h1, h2, h3, q⟩ := h
  obtain ⟨t, rfl⟩ := rx
  obtain ⟨t2, rfl⟩ := ry
  refine PySem.P.mul_str ?_ ?_ ?_ ?_
  · rw [decide_eq_false (by omega), decide_eq_false (by omega)]
    rfl
  · intro c1 c2
    intro z
    have : (2 ^ 63 - 1 : Int) / n ≥ 10 := Int.le_ediv_of_mul_le (by omega) (by omega)
    omega
  · intro c1 c2
    have hm : a.length * n.toNat ≤ 10 * 1000 := Nat.mul_le_mul h1 (by omega)
    have hm2 : (a.length : Int) * (n.toNat : Int) ≤ 10000 := by exact_mod_cast hm
    exact decide_eq_false (by rw [sizeLine_eq]; omega)
  · have q' : Q (V.str (if n < 1 then Str.empty else if (n == 1 || a.length == 0) = true then a else ⟨(List.replicate n.toNat a.cps).foldl (· ++ ·) #[]⟩)) H := q
    split
    · rename_i c
      rw [if_pos c] at q'
      exact ⟨by decide, .str _, H, I.tok _, ⟨_, rfl⟩, q'⟩
    · rename_i c
      rw [if_neg c] at q'
      split
      · rename_i c2
        rw [if_pos c2] at q'
        exact ⟨.str _, H, I, ⟨_, rfl⟩, q'⟩
      · rename_i c2
        rw [if_neg c2] at q'
        refine ⟨?_, .str _, H, I.tok _, ⟨_, rfl⟩, q'⟩
        show ((List.replicate n.toNat a.cps).foldl (· ++ ·) #[]).size ≤ sizeLine
        have e : a.cps.size ≤ 10 := h1
        have e2 : n.toNat * a.cps.size ≤ 1000 * 10 := Nat.mul_le_mul (by omega) e
        rw [fold_sizeT, sizeLine_eq]
        show 0 + n.toNat * a.cps.size ≤ _
        omega
end


end My
namespace My
open PySem PySem.Spec PyProof.Rows L2 TL
set_option pp.maxSteps 3000
set_option pp.deepTerms false
/-! ### Type(..) that may be too large -/
structure ErrT (K : PySem.W.Frag) (mg : Str → Option Value) (x : Str) (C : Addr) : Prop where
  exc : PySem.W.excIn K C [.type "ValueError", .type "Exception", .type "BaseException", .type "object"] "ValueError.__new__" = true
  g : mg x = some (.ref C)
  k : PySem.W.keepIn K (.ref C) = true
  b : PySem.W.subIn K (.ref C) (.type "BaseException") = some true
  t : PySem.W.typeIn K (.ref C) = some (.type "type")
/-- the arguments fit, and are few -/
structure Parts (l : List Ty) (a : Str) : Prop where
  each : ∀ t ∈ l, t.Fits
  few : l.length ≤ 40
  word : isW (.str a) = true ∧ ∀ c ∈ a.cps.toList, c < 128
theorem Parts.places {l : List Ty} {a : Str} (h : Parts l a) : (Ty.placesL l).length ≤ 15 * l.length := by
  obtain ⟨e, -, -⟩ := h
  induction l with
  | nil => rw [Ty.placesL_nil]; exact Nat.zero_le _
  | cons t r ih =>
    have h1 := (e t (List.mem_cons_self ..)).few
    have h2 := ih fun u hu => e u (List.mem_cons_of_mem _ hu)
    rw [Ty.placesL_cons, List.length_append, List.length_cons]
    omega
theorem Parts.order {l : List Ty} {a : Str} (h : Parts l a) : (Ty.mk l a).order ≤ 5 := by
  obtain ⟨e, -, -⟩ := h
  rw [Ty.order]
  induction l with
  | nil => rw [Ty.orderL]; exact Nat.zero_le _
  | cons t r ih =>
    have h1 := (e t (List.mem_cons_self ..)).low
    have h2 := ih fun u hu => e u (List.mem_cons_of_mem _ hu)
    rw [Ty.orderL]
    omega
theorem Parts.fits {l : List Ty} {a : Str} (h : Parts l a) (n : (Ty.mk l a).places.length ≤ 15) (o : (Ty.mk l a).order ≤ 4) : (Ty.mk l a).Fits := by
  refine ⟨fun b hb => ?_, n, o⟩
  rw [Ty.places] at hb
  rcases List.mem_append.mp hb with hb | hb
  · clear n o
    obtain ⟨e, -, -⟩ := h
    induction l with
    | nil => rw [Ty.placesL_nil] at hb; cases hb
    | cons t r ih =>
      rw [Ty.placesL_cons] at hb
      rcases List.mem_append.mp hb with k | k
      · exact (e t (List.mem_cons_self ..)).words b k
      · exact ih (List.mem_append_left _ k) k fun u hu => e u (List.mem_cons_of_mem _ hu)
  · rw [List.mem_singleton.mp hb]
    exact h.word


end My
namespace My
open PySem PySem.Spec PyProof.Rows L2 TL
set_option pp.maxSteps 3000
set_option pp.deepTerms false
/-! ### Type(..) made, or too large -/
/-- the type fits and is made, or InvalidType is raised -/
def sp_Type_initX (K : PySem.W.Frag) (C CE : Addr) : Sp := fun vs H Q E => ∃ x dx p rs l a, vs = [.ref x, .ref p, .str a] ∧ H x = some (.ins C dx []) ∧ H p = some (.tup rs) ∧ IsTs C H l rs ∧ Parts l a ∧
  ((Ty.mk l a).Fits → ∀ q H', (∀ b o, b ≠ x → H b = some o → H' b = some o) → H' x = some (.ins C dx [("_inputs", .ref p), ("_atom", .str a), ("_places", .ref q), ("_order", .int ((Ty.mk l a).order : Nat)), ("_text", .str (Ty.mk l a).text)]) →
    H' q = some (.tup ((Ty.mk l a).places.map V.str)) → Q .non H') ∧
  (¬ (Ty.mk l a).Fits → ∀ H', Same H H' → E (.ref CE) none H')
section
variable {P : Program} {w : World} {K : PySem.W.Frag} {mg : Str → Option Value} {base : Heap} {C_Type C_InvalidType : Addr}
theorem ok_Type_initX (T : Txt K mg C_Type) (e_InvalidType : ErrT K mg "InvalidType" C_InvalidType) (c__is_tuple_of_types : CalN P w K mg base "_is_tuple_of_types" 1 ["value"] (sp__is_tuple_of_types K C_Type)) (c_is_word : CalN P w K mg base "is_word" 1 ["value"] (sp_is_word K)) (p_Type_order : PrpC P w K mg base C_Type "order" 1 ["self"] (getSp C_Type "_order")) (c__text_inside : CalN P w K mg base "_text_inside" 3 ["wanted"] (sp__text_inside K C_Type)) {f : Addr} {fd : FuncData} (F : Fun K "__init__" "Type.__init__" s_Type___init__ f fd) : FnOk P w K mg base (L2.CX P w) 4 f fd ["self", "inputs", "atom"] (sp_Type_initX K C_Type C_InvalidType) := by
  have nd := sc_Type___init__.nd
  refine F.okX sc_Type___init__ (fun vs H Q E h => ?_) (fun cdv A outer s H vs Q E hr h => ?_)
  · obtain ⟨x, dx, p, rs, l, a, rfl, _⟩ := h
    rfl
  · obtain ⟨x, dx, p, rs, l, a, rfl, hx, hp, hl, fit, q, qE⟩ := h
    refine ⟨_, (pss_cons (ps_if (pt_not (pt_val (pe_callN c__is_tuple_of_types (hr.mono (by first | decide | omega)) rfl (pa_cons (pv 1) pa_nil)))) (pss_one (ps_raise rfl (takes_of rfl rfl rfl rfl) (pmk_own PySem.F.excBase_ValueError e_InvalidType.exc e_InvalidType.g e_InvalidType.k (raises_own e_InvalidType.b e_InvalidType.t) rfl))) pss_nil)
      (pss_cons (ps_if (pt_not (pt_val (pe_callN c_is_word (hr.mono (by first | decide | omega)) rfl (pa_cons (pv 2) pa_nil)))) (pss_one ps_never) pss_nil)
      (pss_cons (ps_set (i := 3) nd rfl (.inl rfl) (pe_op op_cat (pe_lc2D (own := [("one", 5), ("word", 6)]) (vs1 := [6]) (by rfl) nd (pi_tup (pv 1)) (blkOk_by (own := [("one", 5), ("word", 6)]) (N := ["self", "inputs", "atom", "places", "order", "one", "word"]) (sc := (defScope s_Type___init__)) (by decide +kernel)) (by decide) (fun _ _ _ _ _ => pg_name (i := 5) nd rfl (Or.inl rfl)) (fun _ _ _ _ _ => pts_nil) (fun _ _ _ _ _ => (pi_tup (pe_fld (pv 5) rfl))) (fun _ _ _ _ _ => pg_name (i := 6) nd rfl (Or.inl rfl)) (fun _ _ _ _ _ => pts_nil) (fun _ _ _ _ _ => (pv 6))) (pe_lst (pa_cons (pv 2) pa_nil))))
      (pss_cons (ps_set (i := 4) nd rfl (.inl rfl) (pe_maxD rfl (by rfl) T.b_max (pe_lcD (own := [("one", 5)]) (by rfl) nd (pi_tup (pv 1)) (blkOk_by (own := [("one", 5)]) (N := ["self", "inputs", "atom", "places", "order", "one", "word"]) (sc := (defScope s_Type___init__)) (by decide +kernel)) (fun _ _ _ _ _ => pg_name (i := 5) nd rfl (Or.inl rfl)) (fun _ _ _ _ _ => pts_nil) (fun _ _ _ _ _ => (pe_op op_add (pe_propC p_Type_order T.k_Type (hr.mono (by first | decide | omega)) (pv 5)) pe_int))) pe_int))
      (pss_cons (ps_if (PW.pt (pw_or (pt_cmpR op_gt (pe_callB call_len (by rfl) T.b_len (by decide +kernel) (pa_cons (pv 3) pa_nil)) (pe_globE rfl T.g_MAX_PLACES) (nomark _)) (pw_or1 (pt_cmpR op_gt (pv 4) (pe_globE rfl T.g_MAX_ORDER) (nomark _))))) (pss_one (ps_raise rfl (takes_of rfl rfl rfl rfl) (pmk_own PySem.F.excBase_ValueError e_InvalidType.exc e_InvalidType.g e_InvalidType.k (raises_own e_InvalidType.b e_InvalidType.t) rfl))) pss_nil)
      (pss_cons (ps_fld (pv 0) (pv 1) rfl)
      (pss_cons (ps_fld (pv 0) (pv 2) rfl)
      (pss_cons (ps_fld (pv 0) (pe_callTy call_tuple_of (by rfl) T.b_tuple (by decide +kernel) (pa_cons (pv 3) pa_nil)) rfl)
      (pss_cons (ps_fld (pv 0) (pv 4) rfl)
      (pss_one (ps_fld (pv 0) (pe_join (pe_globE rfl T.g__ARROW) (pe_op op_cat (pe_lcD (own := [("one", 5)]) (by rfl) nd (pi_tup (pv 1)) (blkOk_by (own := [("one", 5)]) (N := ["self", "inputs", "atom", "places", "order", "one", "word"]) (sc := (defScope s_Type___init__)) (by decide +kernel)) (fun _ _ _ _ _ => pg_name (i := 5) nd rfl (Or.inl rfl)) (fun _ _ _ _ _ => pts_nil) (fun _ _ _ _ _ => (pe_callN c__text_inside (hr.mono (by first | decide | omega)) rfl (pa_cons (pv 5) pa_nil)))) (pe_lst (pa_cons (pv 2) pa_nil)))) rfl))))))))))), ?_⟩
    have pl : (Ty.mk l a).places = Ty.placesL l ++ [a] := by rw [Ty.places]
    have few : (Ty.placesL l).length ≤ 600 := Nat.le_trans fit.places (by have := fit.few; omega)
    have len : l.length ≤ 40 := fit.few
    have aw := fit.word
    have al := isW_len aw.1
    have hrl := hl.len
    -- the two looks
    refine ⟨.ref p, rfl, p, rs, l, rfl, hp, hl, by omega, fun H1 s1 => ⟨true, rfl, iteF ?_⟩⟩
    refine ⟨.str a, rfl, .str a, rfl, .inl ⟨a, rfl, by omega, aw.2⟩, fun H2 s2 => ⟨true, congrArg V.bl aw.1, iteF ?_⟩⟩
    have s12 := s1.trans s2
    clear s1 s2
    -- places
    refine nx_go ?_
    dsimp only
    refine cut_set (fun v H' => ∃ d, v = .ref d ∧ H' d = some (.lst ((Ty.mk l a).places.map V.str)) ∧ Same H H') (fun Q' q' => ?_) ?_
    · refine ⟨.ref p, rfl, p, rfl, ⟨rs, SqT.of (s12 _ _ hp)⟩, fun D hD => ?_⟩
      have nD : H D = none := s12.free hD
      refine walk_tup (xs := rs) (fun i H' => H' D = some (.lst ((Ty.placesL (l.take i)).map V.str)) ∧ Same H H') ?_ (fun i H' _ hP => SqT.of (hP.2 _ _ hp)) (fun i y H' hy hP => ?_) (fun H' hP => ?_)
      · exact ⟨by rw [upd_same, List.take_zero, Ty.placesL_nil]; rfl, s12.mut nD⟩
      · obtain ⟨hD1, s1⟩ := hP
        obtain ⟨t, et, ht⟩ := hl.get hy
        obtain ⟨b, dx', p', q', rs', rfl, hb, _, _, hq⟩ := (IsT.same s1 t y ht).at
        have tl : t.places.length ≤ 600 := Nat.le_trans (Ty.few_ins (List.mem_of_getElem? et)) few
        refine ⟨rfl, tyes ?_⟩
        refine ⟨.ref b, rfl, b, C_Type, dx', _, .ref q', rfl, hb, T.k_Type, T.x_Type.n_places, rfl, q', rfl, ⟨_, SqT.of hq⟩, ?_⟩
        refine walk_tup (xs := t.places.map V.str) (fun j H'' => H'' D = some (.lst ((Ty.placesL (l.take i) ++ t.places.take j).map V.str)) ∧ Same H H'' ∧ H'' q' = some (.tup (t.places.map V.str))) ?_ (fun i H' _ hP => SqT.of hP.2.2) (fun j y H'' hy2 hP => ?_) (fun H'' hP => ?_)
        · exact ⟨by rw [List.take_zero, List.append_nil]; exact hD1, s1, hq⟩
        · obtain ⟨hD2, s2, hq2⟩ := hP
          rw [List.getElem?_map] at hy2
          cases hz : t.places[j]? with
          | none =>
            rw [hz] at hy2
            cases hy2
          | some z =>
            rw [hz] at hy2
            cases hy2
            have jl := lt_of_get hz
            have i14 : (Ty.placesL (l.take i)).length ≤ 600 := by
              have e : l = l.take i ++ l.drop i := (List.take_append_drop i l).symm
              have : (Ty.placesL l).length = (Ty.placesL (l.take i)).length + (Ty.placesL (l.drop i)).length := by
                rw [← List.length_append, ← Ty.placesL_append, ← e]
              omega
            refine ⟨rfl, tyes ?_⟩
            refine ⟨_, rfl, _, hD2, lt_line' ?_, ?_, s2.mut nD, ?_⟩
            · rw [List.length_map, List.length_append, List.length_take]
              omega
            · rw [upd_same, take_next hz, ← List.append_assoc, List.map_append (l₂ := [z])]
              rfl
            · rw [upd_ne (ne_of hq2 hD2 (fun z => nomatch z))]
              exact hq2
        · obtain ⟨hD2, s2, hq2⟩ := hP
          refine ⟨?_, s2⟩
          rw [hD2, List.length_map, List.take_length, take_next et, Ty.placesL_append, Ty.placesL_cons, Ty.placesL_nil, List.append_nil]
      · obtain ⟨hD1, s1⟩ := hP
        rw [hrl, List.take_length] at hD1
        refine ⟨.str a, rfl, by show 1 ≤ sizeLine; decide, fun d1 h1 => ?_⟩
        refine ⟨D, d1, _, [.str a], rfl, rfl, by rw [upd_ne (ne_of_none hD1 h1)]; exact hD1, upd_same, lt_line (by rw [List.length_map]; show _ + 1 ≤ _; omega), fun d2 h2 => ?_⟩
        refine q' _ _ ⟨d2, rfl, ?_, (s1.new h1).new h2⟩
        rw [upd_same, pl, List.map_append]
        rfl
    rintro v H3 ⟨dp, rfl, hdp, s3⟩
    refine cut_set (fun v H' => v = .int (((Ty.mk l a).order : Nat) : Int) ∧ H' dp = some (.lst ((Ty.mk l a).places.map V.str)) ∧ Same H H') (fun Q' q' => ?_) ?_
    · refine ⟨.ref p, rfl, p, rfl, ⟨rs, SqT.of (s3 _ _ hp)⟩, fun D hD => ?_⟩
      have nD : H D = none := s3.free hD
      refine lc_tup (xs := rs) (fun i H' => H' D = some (.lst (((l.take i).map (fun t => ((t.order : Nat) : Int) + 1)).map V.int)) ∧ H' dp = some (.lst ((Ty.mk l a).places.map V.str)) ∧ Same H H') ?_ (fun i H' _ hP => SqT.of (hP.2.2 _ _ hp)) (fun i y H' hy hP => ?_) (fun H' hP => ?_)
      · exact ⟨by rw [upd_same, List.take_zero]; rfl, by rw [upd_ne (ne_of_none hdp hD)]; exact hdp, s3.mut nD⟩
      · obtain ⟨hD1, hd1, s1⟩ := hP
        obtain ⟨t, et, ht⟩ := hl.get hy
        obtain ⟨b, dx', p', q', rs', rfl, hb, _⟩ := (IsT.same s1 t y ht).at
        have io := lt_of_get hy
        rw [hrl] at io
        refine ⟨rfl, tyes ?_⟩
        refine ⟨.ref b, rfl, b, dx', _, rfl, hb, b, dx', _, .int ((t.order : Nat) : Int), rfl, hb, rfl, ((t.order : Nat) : Int), 1, rfl, rfl, _, hD1, lt_line' ?_, ?_, ?_, s1.mut nD⟩
        · rw [List.length_map, List.length_map, List.length_take]
          omega
        · rw [upd_same, take_next et, List.map_append, List.map_append]
          rfl
        · rw [upd_ne]
          · exact hd1
          · intro e
            subst e
            rw [hdp] at hD
            cases hD
      · obtain ⟨hD1, hd1, s1⟩ := hP
        rw [hrl, List.take_length] at hD1
        refine ⟨_, rfl, D, l.map (fun t => ((t.order : Nat) : Int) + 1), 0, rfl, rfl, SqL.of hD1, fun m h0 h1 => q' _ _ ⟨?_, hd1, s1⟩⟩
        rw [Ty.orderL_max l m h0 h1, Ty.order]
    rintro v H4 ⟨rfl, hd4, s4⟩
    by_cases hn : (Ty.mk l a).places.length ≤ 15
    rotate_left
    · refine ⟨.ref dp, rfl, _, _, rfl, .inl ⟨_, SqL.of hd4, rfl⟩, _, _, rfl, rfl, true, congrArg V.bl (decide_eq_true (by rw [List.length_map]; omega)), iteT (iteT ?_)⟩
      exact qE (fun f => hn f.few) H4 s4
    refine ⟨.ref dp, rfl, _, _, rfl, .inl ⟨_, SqL.of hd4, rfl⟩, _, _, rfl, rfl, false, congrArg V.bl (decide_eq_false (by rw [List.length_map]; omega)), iteF ?_⟩
    by_cases ho : (Ty.mk l a).order ≤ 4
    rotate_left
    · refine ⟨_, rfl, _, _, rfl, rfl, true, congrArg V.bl (decide_eq_true (by omega)), iteT ?_⟩
      exact qE (fun f => ho f.low) H4 s4
    refine ⟨_, rfl, _, _, rfl, rfl, false, congrArg V.bl (decide_eq_false (by omega)), iteF ?_⟩
    clear qE
    replace fit := fit.fits hn ho
    obtain ⟨fw, fn, fo⟩ := id fit
    replace few : (Ty.placesL l).length ≤ 14 := by
      rw [pl, List.length_append] at fn
      exact Nat.le_of_succ_le_succ fn
    replace len : l.length ≤ 14 := Nat.le_trans (Ty.len_placesL l) few
    replace q := q fit
    refine nx_go ?_
    dsimp only
    have hx4 := s4 _ _ hx
    refine ⟨.ref p, rfl, .ref x, rfl, x, C_Type, dx, _, rfl, hx4, T.k_Type, T.x_Type.n_inputs, by decide, ?_⟩
    rw [show putF "_inputs" (V.ref p) [] = [(("_inputs" : Str), V.ref p)] from rfl]
    refine ⟨.str a, rfl, .ref x, rfl, x, C_Type, dx, _, rfl, upd_same, T.k_Type, T.x_Type.n_atom, by show 1 < 1000; decide, ?_⟩
    rw [upd_upd, putF_new "_atom" (V.str a) [(("_inputs" : Str), V.ref p)] (show ∀ g ∈ (["_inputs"] : List Str), g ≠ "_atom" by decide +kernel), List.cons_append, List.nil_append]
    have xd : dp ≠ x := ne_of hd4 hx4 (fun z => nomatch z)
    have k5 : ∀ o, Kept H (upd H4 x o) := fun o => s4.kept.new hx
    refine ⟨.ref dp, rfl, dp, _, rfl, .inl ⟨SqL.of ((upd_ne xd).trans hd4), fun q0 hq0 => ?_⟩⟩
    have q0x : x ≠ q0 := ne_of_none upd_same hq0
    refine ⟨.ref x, rfl, x, C_Type, dx, _, rfl, (upd_ne q0x).trans upd_same, T.k_Type, T.x_Type.n_places, by show 2 < 1000; decide, ?_⟩
    rw [putF_new "_places" (V.ref q0) [(("_inputs" : Str), V.ref p), ("_atom", V.str a)] (show ∀ g ∈ (["_inputs", "_atom"] : List Str), g ≠ "_places" by decide +kernel), List.cons_append, List.cons_append, List.nil_append]
    refine ⟨_, rfl, .ref x, rfl, x, C_Type, dx, _, rfl, upd_same, T.k_Type, T.x_Type.n_order, by show 3 < 1000; decide, ?_⟩
    rw [upd_upd, putF_new "_order" (.int (((Ty.mk l a).order : Nat) : Int)) [(("_inputs" : Str), V.ref p), ("_atom", V.str a), ("_places", V.ref q0)] (show ∀ g ∈ (["_inputs", "_atom", "_places"] : List Str), g ≠ "_order" by decide +kernel), List.cons_append, List.cons_append, List.cons_append, List.nil_append]
    generalize hH6 : upd (upd (upd H4 x _) q0 _) x _ = H6
    have hx6 : H6 x = some (.ins C_Type dx [("_inputs", .ref p), ("_atom", .str a), ("_places", .ref q0), ("_order", .int (((Ty.mk l a).order : Nat) : Int))]) := by rw [← hH6, upd_same]
    have hq6 : H6 q0 = some (.tup ((Ty.mk l a).places.map V.str)) := by rw [← hH6, upd_ne (Ne.symm q0x), upd_same]
    have k6 : Kept H H6 := by
      rw [← hH6]
      exact Kept.new (fun b o hb n => by rw [upd_ne (ne_of_none (k5 _ b o hb n) hq0)]; exact k5 _ b o hb n) hx
    have o6 : ∀ b o, b ≠ x → H b = some o → H6 b = some o := fun b o bx hb => by
      have h5 : ∀ u, upd H4 x u b = some o := fun u => by
        rw [upd_ne bx]
        exact s4 b o hb
      rw [← hH6, upd_ne bx, upd_ne (ne_of_none (h5 _) hq0)]
      exact h5 _
    clear hH6
    have hp6 := k6 _ _ hp (fun _ _ z => nomatch z)
    refine ⟨⟨_, rfl⟩, .ref p, rfl, p, rfl, ⟨rs, SqT.of hp6⟩, fun D hD => ?_⟩
    refine lc_tup (xs := rs) (fun i H' => H' D = some (.lst (((l.take i).map Ty.inside).map V.str)) ∧ Same H6 H') ?_ (fun i H' _ hP => SqT.of (hP.2 _ _ hp6)) (fun i y H' hy hP => ?_) (fun H' hP => ?_)
    · exact ⟨by rw [upd_same, List.take_zero]; rfl, (Same.refl H6).mut hD⟩
    · obtain ⟨hD1, s1⟩ := hP
      obtain ⟨t, et, ht⟩ := hl.get hy
      have ft := fit.ins (List.mem_of_getElem? et)
      have io := lt_of_get hy
      rw [hrl] at io
      have f2 := ft.few
      refine ⟨rfl, tyes ?_⟩
      refine ⟨y, rfl, y, t, rfl, IsT.kept (k6.same s1) t y ht, Nat.le_trans (Ty.text_small ft.words ft.few) (by decide), Nat.le_trans t.ins_len (by omega), _, hD1, lt_line' ?_, ?_, s1.mut hD⟩
      · rw [List.length_map, List.length_map, List.length_take]
        omega
      · rw [upd_same, take_next et, List.map_append, List.map_append]
        rfl
    · obtain ⟨hD1, s1⟩ := hP
      rw [hrl, List.take_length, ← Ty.insideL_map] at hD1
      have ln : (Ty.insideL l).length = l.length := by rw [Ty.insideL_map, List.length_map]
      refine ⟨.str a, rfl, by show 1 ≤ sizeLine; decide, fun d1 h1 => ?_⟩
      refine ⟨D, d1, _, [.str a], rfl, rfl, by rw [upd_ne (ne_of_none hD1 h1)]; exact hD1, upd_same, lt_line (by rw [List.length_map, ln]; show _ + 1 ≤ _; omega), fun d2 h2 => ?_⟩
      have s9 := (s1.new (o := .lst [.str a]) h1).new (o := .lst ((Ty.insideL l).map V.str ++ [.str a])) h2
      refine ⟨" -> ", d2, Ty.insideL l ++ [a], rfl, rfl, .inl (SqL.of ?_), ?_, ?_⟩
      · rw [upd_same, List.map_append]
        rfl
      · have i1 := Ty.insideL_len l (fun b hb => (isW_len (fw b (by rw [pl]; exact List.mem_append_left _ hb)).1).2)
        have sep : (" -> " : Str).length = 4 := by decide +kernel
        rw [List.map_append, List.sum_append, List.length_append, sep, ln]
        show _ + [a.length].sum + (l.length + 1) * 4 ≤ 16777216
        rw [show [a.length].sum = a.length from Nat.add_zero _]
        omega
      · refine ⟨.ref x, rfl, x, C_Type, dx, _, rfl, s9 _ _ hx6, T.k_Type, T.x_Type.n_text, by show 4 < 1000; decide, ?_⟩
        rw [putF_new "_text" (.str (Txt.join " -> " (Ty.insideL l ++ [a]))) [(("_inputs" : Str), V.ref p), ("_atom", V.str a), ("_places", V.ref q0), ("_order", .int (((Ty.mk l a).order : Nat) : Int))] (show ∀ g ∈ (["_inputs", "_atom", "_places", "_order"] : List Str), g ≠ "_text" by decide +kernel)]
        refine q q0 _ (fun b o bx hb => ?_) ?_ ?_
        · rw [upd_ne bx]
          exact s9 b o (o6 b o bx hb)
        · rw [upd_same, Ty.text]
          rfl
        · rw [upd_ne (Ne.symm q0x)]
          exact s9 _ _ hq6
end


end My
namespace My
open PySem PySem.Spec PyProof.Rows L2 TL
/-! ### a comprehension whose item may raise -/
section
variable {M : Model} {A : Around} {E : Value → Shared → Prop}
theorem note_frame {e : Value} {p q : Env} (h : p.frame = q.frame) : noteFrame e p = noteFrame e q := by
  unfold PySem.noteFrame PySem.frameOf
  rw [h]
/-- what stands behind the block; the frame is known where an exception leaves it -/
def endsC (M : Model) (A : Around) (E : Value → Shared → Prop) (use : Option (Value → Sem Unit)) (Q : Value → Shared → Prop) (acc : Value) (C : Addr) (fr : Option Addr) : Result → Shared → Prop
  | .ok f, t => compPost M A E use Q acc C (.ok f) t
  | .error x, t => ∃ m, t.heap.Ns C m ∧ ∀ h2, Heap.SameBut C t.heap h2 → ∀ ce : Env, ce.locals = C → ce.frame = fr → wpAny M A (PySem.passOn "comprehension.variables-let-go" x ce : Sem Value) (fun _ _ => False) E { t with heap := h2 }
theorem comp_ends {s : Shared} {env : Env} {e : Expr} {sco : Scope} {pos : Pos} {newAcc first : Sem Value} {c1 : Comprehension} {cr : List Comprehension} {cl : List (Str × Addr)} {use : Option (Value → Sem Unit)} {Q : Value → Shared → Prop}
    (parts : clausesOf e = c1 :: cr) (unfolded : ∀ x, foldedSetIterable c1.iter env x = pure x) (closed : closureFor sco env = pure cl) (isFn : sco.kind = .function) (locs : ∀ x ∈ sco.names, x.2 = .local → sco.names.lookup x.1 = some .local)
    (h : wpAny M A first (fun x s1 => wpAny M A (pyIter x) (fun it s2 => wpAny M A newAcc (fun acc s3 => wpAny M A (newFunctionEnv sco env.globals cl [] env.qual none .none (some env)) (fun ce s4 =>
      codeAny M A (.compStart e 0 it acc { ce with scope := relabel sco env }) (endsC M A E use Q acc ce.locals ce.frame) s4) E s3) E s2) E s1) E s) :
    wpAny M A (comprehension e sco env pos newAcc false first use) Q E s := by
  unfold comprehension
  rw [closed, parts]
  refine wpAny_bind (wpAny_mono h ?_ fun _ _ z => z)
  intro x s1 h1
  refine wpAny_bind (wpAny_standAt (wpAny_bind (wpAny_of_eq (unfolded x) (wpAny_bind (wpAny_holding (wpAny_mono h1 ?_ fun _ _ z => z))))))
  intro it s2 h2
  refine wpAny_standIf (wpAny_bind (wpAny_mono h2 ?_ fun _ _ z => z))
  intro acc s3 h3
  refine wpAny_bind (wpAny_pure (wpAny_bind (wpAny_mono h3 ?_ fun _ _ z => z)))
  intro ce s4 h4
  dsimp only
  generalize hvs : (sco.names.filter fun x => (x.2 == .local || x.2 == .cell) && x.1 != (".0" : Str)).reverse = vs
  have kv : ∀ x ∈ vs, x.2 = .local → Env.kindOf { ce with scope := relabel sco env } x.1 = some .local := by
    intro x hx hl
    rw [← hvs] at hx
    exact lookup_relabel_local (locs x (List.mem_filter.mp (List.mem_reverse.mp hx)).1 hl)
  have kv2 : ∀ x ∈ vs.drop 1 ++ vs.take 1, x.2 = .local → Env.kindOf { ce with scope := relabel sco env } x.1 = some .local := by
    intro x hx hl
    rcases List.mem_append.mp hx with z | z
    · exact kv x (List.mem_of_mem_drop z) hl
    · exact kv x (List.mem_of_mem_take z) hl
  refine wpAny_holding (wpAny_bind (wpAny_attempt (wpAny_holding (wpAny_run (codeAny_mono h4 ?_)))))
  intro r t hr
  match r, hr with
  | .error x, hr =>
    obtain ⟨m, hn, k⟩ := hr
    refine wpAny_bind (wpAny_holding (wpAny_comp_letGo (cenv := { ce with scope := relabel sco env }) isFn _ t m kv hn fun h2 _ _ sb => ?_))
    exact wpAny_mono (k h2 sb _ rfl rfl) (fun _ _ f => f.elim) fun _ _ z => z
  | .ok f, hr =>
    cases use with
    | none =>
      obtain ⟨m, hn, k⟩ := hr
      exact wpAny_bind (wpAny_holding (wpAny_comp_letGo (cenv := { ce with scope := relabel sco env }) isFn _ t m kv hn fun h2 _ _ sb => wpAny_pure (k h2 sb)))
    | some u =>
      refine wpAny_bind (wpAny_rule (wpAny_bind (wpAny_holding (wpAny_mono hr ?_ fun _ _ z => z))))
      intro _ t2 hr2
      obtain ⟨m, hn, k⟩ := hr2
      exact wpAny_bind (wpAny_comp_letGo (cenv := { ce with scope := relabel sco env }) isFn _ t2 m kv2 hn fun h2 _ _ sb => wpAny_pure (k h2 sb))
end
theorem frames_eq {B h h2 : Heap} : ∀ {l : List Env}, h.FunFrames B l → (∀ L ∈ frs l, h2.get? L = h.get? L) → h2.FunFrames B l
  | [], _, _ => trivial
  | p :: l, ff, k => by
    obtain ⟨x1, ⟨L, o, x2, x3, x4, x5⟩, x6⟩ := ff
    have mem : ∀ {z}, z ∈ frs l → z ∈ frs (p :: l) := fun {z} hz => by
      obtain ⟨q, hq, e⟩ := List.mem_filterMap.mp hz
      exact List.mem_filterMap.mpr ⟨q, List.mem_cons_of_mem _ hq, e⟩
    refine ⟨x1, ⟨L, o, x2, x3, ?_, x5⟩, frames_eq x6 fun z hz => k z (mem hz)⟩
    rw [k L (List.mem_filterMap.mpr ⟨p, List.mem_cons_self, x2⟩)]
    exact x4
section
variable {X : Cx} {pins : List (Addr × Obj)} {σ : L2.St} {H3 H1 : Hp} {s3 t0 t : Shared} {C : Addr} {fp : List Addr} {E : XK} {use : Option (Value → Sem Unit)} {Q : Value → Shared → Prop} {acc u : Value} {ce : Env}
/-- what a call lets out within the block of a def's comprehension leaves the block, its variables let go -/
theorem air_out (top : X.stack = X.env :: X.outer) (own : X.env.frame = some X.env.locals) (tk : Takes X (fun cls d _ H => E cls d H)) (I3 : Inv X pins σ H3 s3) (f3 : ∀ b ∈ fp, FpOk X pins H3 b) (hC : C = s3.heap.objs.size) (nC3 : H3 C = none)
    (os : t0.os = s3.os) (un : Un (frs X.stack) fp H3 H1 s3.heap t0.heap) (nC : H1 C = none) (ns : ∃ m, t0.heap.Ns C m) (c : L2.CX X.prog X.w X.stack H1 t0 E u t) (fr : ce.frame = X.env.frame) :
    notedBy (model X.prog X.w) X.A ce (fun e s' => endsC (model X.prog X.w) X.A X.xe use Q acc C X.env.frame (.error e) s') u t := by
  obtain ⟨a, B, H2, cls, d, rfl, fl, hok, ub, na, os2, ag, hE⟩ := c
  obtain ⟨m, oC, esC, epC, hoC, hdC, hmC⟩ := ns
  have fC : FpOk X pins H3 C := I3.fpOk (Nat.le_of_eq hC.symm) nC3
  have nst : C ∉ frs X.stack := fun z => by
    rcases List.mem_cons.mp (I3.stkSub C z) with e | e
    · exact fC.2.1 e
    · exact fC.2.2.1 e
  have BC := ub.keep C oC hoC nC nst
  have nC2 := ub.free C oC hoC nC
  have st : B.StaysIn t.heap := fl.1
  have lt3 : ∀ b o, s3.heap.get? b = some o → b ≠ C := fun b o e z => by
    have h1 := Heap.lt_size e
    rw [z, hC] at h1
    exact Nat.lt_irrefl _ h1
  -- the ground without the block's variables
  obtain ⟨B2, b1, b2⟩ := restrict B fun b => decide (b ≠ C)
  have le2 : ∀ b o, B2.get? b = some o → B.get? b = some o ∧ b ≠ C := fun b o e => by
    by_cases hb : b = C
    · rw [b2 b (by simp [hb])] at e
      cases e
    · rw [b1 b (by simp [hb])] at e
      exact ⟨e, hb⟩
  have in2 : ∀ b o, b ≠ C → B.get? b = some o → B2.get? b = some o := fun b o hb e => by
    rw [b1 b (by simp [hb])]
    exact e
  have no2 : ∀ b, B.get? b = none → B2.get? b = none := fun b e => by
    cases q : B2.get? b with
    | none => rfl
    | some o =>
      have z := (le2 b o q).1
      rw [e] at z
      cases z
  obtain ⟨G, g1, g2⟩ := restrict t.heap fun b => (B2.get? b).isSome || decide (b ∈ frs X.stack)
  have gB : ∀ b o, B2.get? b = some o → G.get? b = some o := fun b o e => by
    rw [g1 b (by simp [e])]
    exact st b o (le2 b o e).1
  have gF : ∀ b, b ∈ frs X.stack → G.get? b = t.heap.get? b := fun b hb => g1 b (by simp [hb])
  have og : ∀ b o, G.get? b = some o → t.heap.get? b = some o ∧ ((B2.get? b).isSome = true ∨ b ∈ frs X.stack) := fun b o e => by
    cases q : ((B2.get? b).isSome || decide (b ∈ frs X.stack)) with
    | false =>
      rw [g2 b q] at e
      cases e
    | true =>
      rw [g1 b q] at e
      exact ⟨e, by simpa [Bool.or_eq_true] using q⟩
  have gC : ∀ b o, G.get? b = some o → b ≠ C := fun b o e z => by
    rcases (og b o e).2 with h | h
    · obtain ⟨o2, q⟩ := Option.isSome_iff_exists.mp h
      exact (le2 b o2 q).2 z
    · rw [z] at h
      exact nst h
  have okB : HOk X.prog X.w H2 G := fun b o q => (hok b o q).stay (fun c2 u2 hc r => gB c2 u2 (in2 c2 u2 (fun z => by
    rcases hc with hc | hc
    · rw [← hc, z, nC2] at q
      cases q
    · rw [z, nC2] at hc
      cases hc) r)) (fun _ r => r) fun _ _ r => r
  have J : Inv X pins σ H2 { s3 with heap := G, gens := t.gens, drawn := t.drawn, toks := t.toks } := by
    refine I3.call (ch := fp) ⟨?_, ?_, ?_, ?_, ?_, ?_, ?_⟩ okB ag fun b hb => ⟨(f3 b hb).2.2.2.1, (f3 b hb).2.1, (f3 b hb).2.2.2.2.1, (f3 b hb).2.2.2.2.2⟩
    · exact fun b o e n hf hp => gB b o (in2 b o (lt3 b o e) (ub.keep b o (un.keep b o e n hf hp) (un.free b o e n hp) hf))
    · intro b o e n hf hp
      obtain ⟨sl, e1⟩ := un.slot b o e n hf hp
      obtain ⟨sl2, e2⟩ := ub.slot b _ e1 hf
      exact ⟨sl2, by rw [gF b hf]; exact e2⟩
    · intro b o e n hp
      obtain ⟨o1, e1⟩ := un.there b o e hp
      exact ub.free b o1 e1 (un.free b o e n hp)
    · intro b o e hp
      obtain ⟨o1, e1⟩ := un.there b o e hp
      by_cases hf : b ∈ frs X.stack
      · obtain ⟨sl, e2⟩ := ub.slot b o1 e1 hf
        exact ⟨_, by rw [gF b hf]; exact e2⟩
      · obtain ⟨o2, e2⟩ := ub.there b o1 e1 hf
        exact ⟨o2, gB b o2 (in2 b o2 (lt3 b o e) e2)⟩
    · exact fun b xs e => ub.tups b xs (un.tups b xs e)
    · exact fun b o xs e => ub.frzs b o xs (un.frzs b o xs e)
    · intro b ps e
      obtain ⟨m1, e1⟩ := un.tbls b ps e
      obtain ⟨m2, e2⟩ := ub.tbls b _ e1
      exact ⟨m1 ++ m2, by rw [e2, Array.append_assoc]⟩
  have ground : ∀ b o, G.get? b = some o → b ∉ frs X.stack → B2.get? b = some o := fun b o e hb => by
    obtain ⟨e2, h⟩ := og b o e
    rcases h with h | h
    · obtain ⟨o2, q⟩ := Option.isSome_iff_exists.mp h
      have z := st b o2 (le2 b o2 q).1
      rw [e2] at z
      cases z
      exact q
    · exact absurd h hb
  have fl2 : HandSPX.FlyingZ B2 (X.env :: X.outer) a (Zc cls d) t.heap := by
    rw [← top]
    obtain ⟨_, hen, hl, oe, vs, T, oT, ts, he, hz, hd, h1, hnT, hTe, hT, hdT, h3⟩ := fl
    exact ⟨fun b o e => st b o (le2 b o e).1, no2 a hen, funFrames_none hl fun L hL => no2 L (hl.mem hL).1, oe, vs, T, oT, ts, he, hz, hd, h1, no2 T hnT, hTe, hT, hdT, h3⟩
  have frames : X.A.frames = some (X.env :: X.outer) := by rw [I3.ok.frames, top]
  show wpAny _ _ (noteFrame (.ref a) ce) _ _ _
  rw [note_frame fr]
  refine HandSPX.looks_onZ Zc.steady frames own fl2 fun h1 held up => ?_
  obtain ⟨slC, eC⟩ := up C oC (st C oC BC) fun vs z => by
    rw [hdC] at z
    cases z
  refine ⟨m, ⟨_, esC, epC, eC, hdC, hmC⟩, fun h2 sb ce2 eL eF => ?_⟩
  have k2 : ∀ b o, b ≠ C → h1.get? b = some o → h2.get? b = some o := fun b o hb e => (sb.2 b hb).trans e
  have held2 : HandSPX.HeldZ B2 (X.env :: X.outer) a (Zc cls d) X.env.locals h2 := by
    obtain ⟨x1, x2, x3, oe, vs, T, oT, ts, he, hz, hd, h1', hnT, hTe, hT, hdT, h3⟩ := held
    have rec_ : ∀ b o vs, h1.get? b = some o → o.data = .fields vs → b ≠ C := fun b o vs e dd z => by
      rw [z, eC] at e
      cases e
      have q : oC.data = .fields vs := dd
      rw [hdC] at q
      cases q
    refine ⟨fun b o e => k2 b o (le2 b o e).2 (x1 b o e), x2, frames_eq x3 fun L hL => sb.2 L fun z => nst (by rw [top, ← z]; exact hL), oe, vs, T, oT, ts, k2 a oe (rec_ a oe vs he hd) he, hz, hd, h1', hnT, hTe, k2 T oT (rec_ T oT ts hT hdT) hT, hdT, h3⟩
  have upG : G.UpToSlots h2 := fun b o e hnf => by
    obtain ⟨sl, e1⟩ := up b o (og b o e).1 hnf
    exact ⟨sl, k2 b _ (gC b o e) e1⟩
  obtain ⟨y1, y2, y3, oe, vs, T, oT, ts, he, hz, hd, hv1, hrest⟩ := id held2
  unfold PySem.passOn
  refine wpAny_bind (wpAny_field he hd hv1 ?_)
  rw [if_neg (show ¬ ((Value.ref T == Value.none) = true) by simp)]
  have done : wpAny (model X.prog X.w) X.A (setFlight (.ref a) ce2.frame) (fun _ s4 => wpAny (model X.prog X.w) X.A (throw (.ref a) : Sem Value) (fun _ _ => False) X.xe s4) X.xe { t with heap := h2 } := by
    rw [eF, own]
    refine HandSPX.setFlight_onZ held2 fun h4 held4 up4 => wpAny_throw (tk _ _ ?_)
    refine ⟨a, B2, _, pins, σ, H2, cls, d, rfl, J, ground, upG.trans up4, .inr (.inr ?_), na, os2.trans os, ag, hE⟩
    rw [top]
    exact held4
  first
    | exact wpAny_bind (wpAny_pure (wpAny_bind done))
    | exact wpAny_bind done
end
section
variable {X : Cx}
/-- the block with a wish for exceptions -/
abbrev blkW (X : Cx) (s : Shared) (H : Hp) (sco : Scope) (ce : Env) (fp : List Addr) (xe : Value → Shared → Prop) : Cx := (X.blk s H sco ce fp).wish xe
theorem lc_coreX {pins : List (Addr × Obj)} {s : Shared} {σ : L2.St} {H : Hp} {Q : VK} {elt tg iter : Expr} {ifs : List Expr} {sco : Scope} {own : List (Str × Nat)} {pos pos2 : Pos} {wi : TI} {g : TG} {tt : TT} {te : TE} {use : Option (Value → Sem Unit)} {Qf : Value → Shared → Prop} {E : XK}
    (top : X.stack = X.env :: X.outer) (ownF : X.env.frame = some X.env.locals) (tk : Takes X (fun cls d _ H => E cls d H)) (hc : X.calm = true) (hN : X.N.Nodup) (I : Inv X pins σ H s) (hi : PI X tg iter wi) (ok : BlkOk X.N X.env.scope sco own)
    (hg : ∀ (s : Shared) (H : Hp) (C : Addr) (cl : List (Str × Addr)) (fp : List Addr), PG (X.blk s H sco (compEnvC sco cl C X.env) fp) tg g) (ht : ∀ (s : Shared) (H : Hp) (C : Addr) (cl : List (Str × Addr)) (fp : List Addr), PTs (X.blk s H sco (compEnvC sco cl C X.env) fp) ifs tt)
    (he : ∀ (s : Shared) (H : Hp) (C : Addr) (cl : List (Str × Addr)) (fp : List Addr) (xe : Value → Shared → Prop), Passes (L2.CX X.prog X.w) (blkW X s H sco (compEnvC sco cl C X.env) fp xe) E → PE (blkW X s H sco (compEnvC sco cl C X.env) fp xe) elt te)
    (hs : ∀ x, foldedSetIterable iter X.env x = pure x) (h : tLc wi g tt te (own.map (·.2)) σ H Q)
    (fin : ∀ D C s' m H', Inv X pins σ H' s' → Q (.ref D) H' → s'.heap.Ns C m → FpOk X pins H' C → compPost (model X.prog X.w) X.A X.xe use Qf (.ref D) C (.ok .next) s') :
    wpAny (model X.prog X.w) X.A (comprehension (.ListComp elt [⟨tg, iter, ifs, 0⟩] sco pos) sco X.env pos2 (newList []) false (eval iter X.env) use) Qf X.xe s := by
  have caught : ∀ y ∈ sco.names, y.2 = .free → ∃ c, X.env.cells.lookup y.1 = some c := by
    intro y hy e
    rcases ok.free y hy e with k | k
    · exact I.ok.has _ (.inl k)
    · exact I.ok.has _ (.inr k)
  refine comp_ends (use := use) rfl hs (closure_ok caught) ok.kind (fun y hy e => by rw [ok.uniq y hy, e]) (thn (hi.run pins s σ H _ I h) ?_)
  intro xv s1 hx
  refine thn hx ?_
  intro itv s2 h2
  obtain ⟨it, fp, tn, J, H2, rfl, I2, T, go2, f2, q⟩ := h2
  refine wpAny_newObj_type ?_ (Nat.zero_le _)
  refine newEnv_comp ?_
  generalize hD : s2.heap.objs.size = D
  obtain ⟨W, ⟨m0, w0⟩, turn⟩ := q D (I2.hok.fresh (Nat.le_of_eq hD))
  generalize hs3 : ({ s2 with heap := s2.heap.push { cls := .type "list", data := .seq ([] : List Value).toArray } } : Shared) = s3
  have e3 : s3.heap = s2.heap.push { cls := .type "list", data := .seq ([] : List Value).toArray } := congrArg Shared.heap hs3.symm
  have I3 : Inv X pins σ (upd H2 D (.lst [])) s3 := by
    subst hs3
    refine I2.laid (t' := s2.toks) (fun b o e => Heap.get?_push_of_some _ e) (Nat.le_of_eq hD) ⟨Nat.zero_le _, [], 0, .nil, ?_⟩
    subst hD
    exact Heap.get?_push_size _ rfl
  have f3 : ∀ b ∈ fp, FpOk X pins (upd H2 D (.lst [])) b ∧ b < s3.heap.objs.size := by
    intro b hb
    obtain ⟨o, e, _⟩ := T.obj _ _ go2 b hb
    have lt := Heap.lt_size e
    obtain ⟨z0, z⟩ := f2 b hb
    refine ⟨⟨?_, z⟩, ?_⟩
    · rw [upd_ne (fun y => Nat.ne_of_lt lt (y.trans hD.symm))]
      exact z0
    · rw [e3, Heap.size_push]
      exact Nat.lt_succ_of_lt lt
  have go3 : tn 0 s3.heap := T.keep _ _ _ go2 (by
    intro b _ o e
    rw [e3]
    exact Heap.get?_push_of_some _ e)
  have I4 := block_start I3 ok hN f3
  have pg := hg s3 (upd H2 D (.lst [])) s3.heap.objs.size (cellsFrom (s3.heap.objs.size + 1) sco.names (cloFrom X.env.cells sco.names [])) fp
  have pt := ht s3 (upd H2 D (.lst [])) s3.heap.objs.size (cellsFrom (s3.heap.objs.size + 1) sco.names (cloFrom X.env.cells sco.names [])) fp
  have pe := he s3 (upd H2 D (.lst [])) s3.heap.objs.size (cellsFrom (s3.heap.objs.size + 1) sco.names (cloFrom X.env.cells sco.names [])) fp
  show codeAny _ _ (.compStart _ 0 (.ref it) (.ref D) (compEnvC sco (cellsFrom (s3.heap.objs.size + 1) sco.names (cloFrom X.env.cells sco.names [])) s3.heap.objs.size X.env))
    (endsC (model X.prog X.w) X.A X.xe use Qf (.ref D) s3.heap.objs.size X.env.frame) { s3 with heap := pushCells (s3.heap.push { cls := .type "dict", data := .dict #[] }) sco.names }
  have n3 : ∀ b ∈ fp, (upd H2 D (.lst [])) b = none := fun b hb => (f3 b hb).1.1
  generalize hce : compEnvC sco (cellsFrom (s3.heap.objs.size + 1) sco.names (cloFrom X.env.cells sco.names [])) s3.heap.objs.size X.env = ce at I4 pg pt pe ⊢
  have cL : ce.locals = s3.heap.objs.size := by rw [← hce]; rfl
  have cF : ce.frame = X.env.frame := by rw [← hce]; rfl
  generalize upd H2 D (.lst []) = H3 at I3 I4 pg pt pe w0 n3 f3
  have nC3 : H3 s3.heap.objs.size = none := I3.hok.fresh (Nat.le_refl _)
  generalize hs4 : ({ s3 with heap := pushCells (s3.heap.push { cls := .type "dict", data := .dict #[] }) sco.names } : Shared) = s4 at I4 ⊢
  have go4 : tn 0 s4.heap := T.keep _ _ _ go3 (by
    intro b _ o e
    rw [← hs4]
    exact pushCells_keeps _ _ _ _ (Heap.get?_push_of_some _ e))
  -- the block's own places stay out of sight
  have stat : ∀ {σ' : L2.St} {H' : Hp} {s' : Shared}, Inv (X.blk s3 H3 sco ce fp) [] σ' H' s' → (∀ b ∈ fp, H' b = none) → ∀ b ∈ fp, FpOk (X.blk s3 H3 sco ce fp) [] H' b := by
    intro σ' H' s' K n b hb
    obtain ⟨k1, k2⟩ := K.ok.exf b hb
    exact ⟨n b hb, k1, K.ok.exfs b hb, .inl hb, fun x c e => k2 x c e, fun p hp => by cases (show p ∈ ([] : List (Addr × Obj)) from by simpa using hp)⟩
  have nsOf : ∀ {ps : List (Addr × Obj)} {σ' : L2.St} {H' : Hp} {s' : Shared}, Inv (X.blk s3 H3 sco ce fp) ps σ' H' s' → (∃ m, s'.heap.Ns s3.heap.objs.size m) ∧ H' s3.heap.objs.size = none := by
    intro ps σ' H' s' K
    obtain ⟨m, n, _⟩ := K.loc
    have n : s'.heap.Ns ce.locals m := n
    have f : H' ce.locals = none := K.free
    rw [cL] at n f
    exact ⟨⟨m, n⟩, f⟩
  -- what the item may let out
  let air : Value → Shared → Prop := fun u t => ∃ ps σ' H' t0, Inv (X.blk s3 H3 sco ce fp) ps σ' H' t0 ∧ L2.CX X.prog X.w X.stack H' t0 E u t
  have leaves : ∀ u t, air u t → notedBy (model X.prog X.w) X.A ce (fun e s' => endsC (model X.prog X.w) X.A X.xe use Qf (.ref D) s3.heap.objs.size X.env.frame (.error e) s') u t := by
    rintro u t ⟨ps, σ', H', t0, K, c⟩
    obtain ⟨ns, nC⟩ := nsOf K
    exact air_out top ownF tk I3 (fun b hb => (f3 b hb).1) rfl nC3 K.os K.base nC ns c cF
  have pe2 := pe air fun ps σ' H' t0 u t K c => ⟨ps, σ', H', t0, K.unwish, c⟩
  have loop : codeAny (model X.prog X.w) X.A (.compLoop (.ListComp elt [⟨tg, iter, ifs, 0⟩] sco pos) 0 (.ref it) (.ref D) ce) (endsC (model X.prog X.w) X.A X.xe use Qf (.ref D) s3.heap.objs.size X.env.frame) s4 := by
    refine compLoop_any (fun n s' => ∃ i H', Inv (X.blk s3 H3 sco ce fp) [] (wipe σ (own.map (·.2))) H' s' ∧ tn i s'.heap ∧ (∀ b ∈ fp, H' b = none) ∧ W i n H') ?_ m0 ⟨0, H3, I4, go4, n3, w0⟩
    rintro n s5 ⟨i, H5, I5, go5, n5, w5⟩
    rcases turn i n H5 w5 with ⟨stop, qq⟩ | ⟨go, Nx, hNx, step⟩
    · refine thnF (T.done (X.blk s3 H3 sco ce fp) rfl rfl rfl hc i [] s5 _ H5 (fun _ _ => False) I5 (stat I5 n5) go5 stop) ?_
      rintro r s6 ⟨rfl, I6⟩
      obtain ⟨⟨m, ns⟩, nC⟩ := nsOf I6
      exact fin D _ s6 m H5 (I3.call' (ch := fp) I6.os I6.base I6.hok I6.bare fun b hb => ⟨(f3 b hb).1.2.2.2.1, (f3 b hb).1.2.1, (f3 b hb).1.2.2.2.2.1, (f3 b hb).1.2.2.2.2.2⟩) qq ns (I3.fpOk (Nat.le_refl _) nC)
    · refine thnF (T.item (X.blk s3 H3 sco ce fp) rfl rfl rfl hc i [] s5 _ H5 (fun _ _ => False) I5 (stat I5 n5) go5 go) ?_
      rintro r s6 ⟨u, rfl, h6⟩
      refine thnF h6 ?_
      rintro _ s7 ⟨x, H7, I7, r7, y7, go7, n7⟩
      have I7p := I7.pinned (stat I7 n7) (T.obj _ _ go7)
      refine thnF (pg.run _ s7 _ H7 x u _ I7p r7 (step x H7 y7)) ?_
      rintro _ s8 ⟨σ8, H8, I8, w8, q8⟩
      refine thnF (pt.run _ s8 σ8 H8 _ I8 q8) ?_
      rintro b s9 ⟨H9, I9, q9⟩
      -- the turn's end
      have turned : ∀ {s' : Shared} {H' : Hp}, Inv (X.blk s3 H3 sco ce fp) ([] ++ pinsAt fp s7.heap) σ8 H' s' → Nx H' → ∃ m, m < n ∧ ∃ i H', Inv (X.blk s3 H3 sco ce fp) [] (wipe σ (own.map (·.2))) H' s' ∧ tn i s'.heap ∧ (∀ b ∈ fp, H' b = none) ∧ W i m H' := by
        intro s' H' K nx
        obtain ⟨m, lt, w⟩ := hNx H' nx
        have pinned : ∀ b ∈ fp, ∀ o, s7.heap.get? b = some o → s'.heap.get? b = some o ∧ H' b = none := by
          intro b hb o e
          obtain ⟨z1, z2, _⟩ := K.pin (b, o) (List.mem_append_right _ (List.mem_append_right _ (mem_pinsAt hb e)))
          exact ⟨z1, z2⟩
        refine ⟨m, lt, i + 1, H', (K.unpinned (pins := [])).weak (by rw [← w8, wipe_length]) ?_, T.keep _ _ _ go7 fun b hb o e => (pinned b hb o e).1, ?_, w⟩
        · intro j v e
          rw [← w8] at e
          exact (wipe_some e).1
        · intro b hb
          obtain ⟨o, e, _⟩ := T.obj _ _ go7 b hb
          exact (pinned b hb o e).2
      cases b with
      | false =>
        rw [if_neg Bool.false_ne_true] at q9 ⊢
        exact turned I9 q9
      | true =>
        rw [if_pos rfl] at q9 ⊢
        refine wpAny_mono (pe2.run _ s9 σ8 H9 _ (I9.wish air) q9) ?_ leaves
        rintro z s10 ⟨yv, H10, I10, r10, acc, hD10, hz10, nx⟩
        exact app_ok (X := X.blk s3 H3 sco ce fp) I10.unwish hD10 hz10 r10 fun s11 I11 => turned I11 nx
  exact codeAny_compStart_list loop (T.self X.A 0 _ _ _ go4 loop)
/-- as a value -/
theorem pe_lcX {elt tg iter : Expr} {ifs : List Expr} {sco : Scope} {own : List (Str × Nat)} {pos : Pos} {wi : TI} {g : Dep TG} {tt : Dep TT} {te : Dep TE} {E : XK} (hc : X.calm = true) (hN : X.N.Nodup)
    (top : X.stack = X.env :: X.outer) (ownF : X.env.frame = some X.env.locals) (tk : Takes X (fun cls d _ H => E cls d H)) (hi : PI X tg iter wi) (ok : BlkOk X.N X.env.scope sco own)
    (hg : ∀ (s : Shared) (H : Hp) (C : Addr) (cl : List (Str × Addr)) (fp : List Addr), PG (X.blk s H sco (compEnvC sco cl C X.env) fp) tg (g s H C cl fp)) (ht : ∀ (s : Shared) (H : Hp) (C : Addr) (cl : List (Str × Addr)) (fp : List Addr), PTs (X.blk s H sco (compEnvC sco cl C X.env) fp) ifs (tt s H C cl fp))
    (he : ∀ (s : Shared) (H : Hp) (C : Addr) (cl : List (Str × Addr)) (fp : List Addr) (xe : Value → Shared → Prop), Passes (L2.CX X.prog X.w) (blkW X s H sco (compEnvC sco cl C X.env) fp xe) E → PE (blkW X s H sco (compEnvC sco cl C X.env) fp xe) elt (te s H C cl fp))
    (hs : ∀ x, foldedSetIterable iter X.env x = pure x := by intro _; rfl) (eg : ∀ s H C cl fp, g s H C cl fp = g.at X := by intros; rfl) (et : ∀ s H C cl fp, tt s H C cl fp = tt.at X := by intros; rfl) (ee : ∀ s H C cl fp, te s H C cl fp = te.at X := by intros; rfl) :
    PE X (.ListComp elt [⟨tg, iter, ifs, 0⟩] sco pos) (tLc wi (g.at X) (tt.at X) (te.at X) (own.map (·.2))) := by
  refine ⟨?_⟩
  intro pins s σ H Q I h
  rw [eval_ListComp]
  refine lc_coreX top ownF tk hc hN I hi ok (fun s H C cl fp => eg s H C cl fp ▸ hg s H C cl fp) (fun s H C cl fp => et s H C cl fp ▸ ht s H C cl fp) (fun s H C cl fp xe hp => ee s H C cl fp ▸ he s H C cl fp xe hp) hs h ?_
  rintro D C t m H2 J q n ⟨f0, f1, f2, f3, f4, f5⟩
  refine ⟨m, n, fun h2 sb => ⟨.ref D, H2, J.turned (t' := t.toks) (fun b o hb e => ?_) f0 f1 f3 f4 f5, rfl, q⟩⟩
  exact (sb.2 b hb).trans e
/-- name = [..] on one line -/
theorem ps_setLcX {i : Nat} {y : Str} {py : Pos} {elt tg iter : Expr} {ifs : List Expr} {sco : Scope} {own : List (Str × Nat)} {pos spos : Pos} {wi : TI} {g : Dep TG} {tt : Dep TT} {te : Dep TE} {E : XK} (hc : X.calm = true) (hN : X.N.Nodup) (hy : X.N[i]? = some y) (hyl : X.env.scope.names.lookup y = some .local)
    (hsw : swapsWith (.ListComp elt [⟨tg, iter, ifs, 0⟩] sco pos) (some (.Name y py)) spos.line X.env = pure true) (top : X.stack = X.env :: X.outer) (ownF : X.env.frame = some X.env.locals) (tk : Takes X (fun cls d _ H => E cls d H)) (hi : PI X tg iter wi) (ok : BlkOk X.N X.env.scope sco own)
    (hg : ∀ (s : Shared) (H : Hp) (C : Addr) (cl : List (Str × Addr)) (fp : List Addr), PG (X.blk s H sco (compEnvC sco cl C X.env) fp) tg (g s H C cl fp)) (ht : ∀ (s : Shared) (H : Hp) (C : Addr) (cl : List (Str × Addr)) (fp : List Addr), PTs (X.blk s H sco (compEnvC sco cl C X.env) fp) ifs (tt s H C cl fp))
    (he : ∀ (s : Shared) (H : Hp) (C : Addr) (cl : List (Str × Addr)) (fp : List Addr) (xe : Value → Shared → Prop), Passes (L2.CX X.prog X.w) (blkW X s H sco (compEnvC sco cl C X.env) fp xe) E → PE (blkW X s H sco (compEnvC sco cl C X.env) fp xe) elt (te s H C cl fp))
    (hs : ∀ x, foldedSetIterable iter X.env x = pure x := by intro _; rfl) (eg : ∀ s H C cl fp, g s H C cl fp = g.at X := by intros; rfl) (et : ∀ s H C cl fp, tt s H C cl fp = tt.at X := by intros; rfl) (ee : ∀ s H C cl fp, te s H C cl fp = te.at X := by intros; rfl) :
    PS X (.Assign [.Name y py] (.ListComp elt [⟨tg, iter, ifs, 0⟩] sco pos) spos) (tAsg (tLc wi (g.at X) (tt.at X) (te.at X) (own.map (·.2))) (gName i)) := by
  refine ⟨?_⟩
  intro pins s σ H D I h
  rw [exec_Assign_Name_used _ _ _ _ hsw]
  refine wpAny_bind (wpAny_standAt (wpAny_bind ?_))
  show wpAny _ X.A (do let _ ← comprehension (.ListComp elt [⟨tg, iter, ifs, 0⟩] sco pos) sco X.env (firstIterPos [⟨tg, iter, ifs, 0⟩] pos) (newList []) false (eval iter X.env) (some (assign (.Name y py) X.env))) _ _ s
  have h : tLc wi (g.at X) (tt.at X) (te.at X) (own.map (·.2)) σ H (fun x H1 => gName i x σ H1 D.nx) := h
  refine wpAny_bind (thn (lc_coreX (Qf := fun _ s' => SP X pins D .next s') top ownF tk hc hN I hi ok (fun s H C cl fp => eg s H C cl fp ▸ hg s H C cl fp) (fun s H C cl fp => et s H C cl fp ▸ ht s H C cl fp) (fun s H C cl fp xe hp => ee s H C cl fp ▸ he s H C cl fp xe hp) hs h ?_) fun _ t hq => wpAny_pure (wpAny_pure hq))
  rintro L C t m H2 J q n ⟨f0, f1, f2, f3, f4, f5⟩
  show wpAny _ _ (assign (.Name y py) X.env (.ref L)) _ _ _
  refine wpAny_assign_Name (store_ok2 (v := V.ref L) J hN hy (.inl hyl) rfl ?_ (.inr hyl))
  rintro t2 J2 ⟨a, sb, ha⟩
  have ne : C ≠ a := by
    rcases ha with z | z
    · rw [z]
      exact f1
    · exact fun e => f4 y a z e.symm
  refine ⟨m, n.sameBut sb ne, fun h3 sb3 => ⟨_, H2, J2.turned (t' := t2.toks) (fun b o hb e => ?_) f0 f1 f3 f4 f5, q⟩⟩
  exact (sb3.2 b hb).trans e
end


end My
namespace My
open PySem PySem.Spec PyProof.Rows L2 TL
/-! ### defs whose exceptions are let out, in any context -/
theorem passLN {X : Cx} : Passes (L2N.CX X.prog X.w) X E0 := fun _ _ _ _ _ _ _ h => by
  obtain ⟨_, _, _, _, _, _, _, _, _, _, _, _, z⟩ := h
  exact z.elim
section
variable {P : Program} {w : World} {K : PySem.W.Frag} {mg : Str → Option Value} {base : Heap}
theorem _root_.L2.Fun.okCN {x qual : Str} {st : Stmt} {f : Addr} {fd : FuncData} {N ps : List Str} {k : Nat} {sp : Sp} (F : Fun K x qual st f fd) (S : FnScope N ps (defScope st)) (len : ∀ vs H Q E, sp vs H Q E → vs.length = ps.length)
    (hbody : ∀ (cdv : Value) (A : Around) (outer : List Env) (s : Shared) (H : Hp) (vs : List V) (Q : VK) (E : XK), Room k (A.deeper (envOfC qual (defScope st) s.heap.objs.size f cdv)) → sp vs H Q E →
      ∃ t, PSs (cxOf (L2N.CX P w) P w K mg base N qual (defScope st) f cdv A outer s H E) (defBody st) t ∧ t { nx := fun _ H' => Q .non H', rt := Q } (start N vs) H) : FnOk P w K mg base (L2N.CX P w) (k + 1) f fd ps sp := by
  obtain ⟨oc, od, kV, doc, pm, an, cdv, ct, osl, rfl, lk, hcd⟩ := F.ex
  exact fn_of lk hcd S len fun A outer s H vs Q E hr hsp => hbody cdv A outer s H vs Q E hr hsp
end
structure CalY (CX : CXT) (P : Program) (w : World) (K : PySem.W.Frag) (mg : Str → Option Value) (base : Heap) (x : Str) (k : Nat) (ps : List Str) (sp : Sp) : Prop where
  ex : ∃ f fd, FnOk P w K mg base CX k f fd ps sp ∧ mg x = some (.ref f) ∧ PySem.W.keepIn K (.ref f) = true ∧ Binds K fd ps []
structure MakY (CX : CXT) (P : Program) (w : World) (K : PySem.W.Frag) (mg : Str → Option Value) (base : Heap) (C : Addr) (k : Nat) (ps : List Str) (sp : Sp) : Prop where
  ex : ∃ f fd, FnOk P w K mg base CX k f fd ps sp ∧ Mk K C f ∧ Binds K fd ps []
structure CmtY (CX : CXT) (P : Program) (w : World) (K : PySem.W.Frag) (mg : Str → Option Value) (base : Heap) (C : Addr) (m : Str) (k : Nat) (ps : List Str) (sp : Sp) : Prop where
  ex : ∃ f fd mc p, FnOk P w K mg base CX k f fd ps sp ∧ ClX.CRead K C mc ∧ ClX.CMet K C mc m p f ∧ Binds K fd ps []
theorem FnR.ofY {CX : CXT} {P : Program} {w : World} {K : PySem.W.Frag} {mg : Str → Option Value} {base : Heap} {k : Nat} {f : Addr} {fd : FuncData} {ps : List Str} {sp : Sp} (ok : FnOk P w K mg base CX k f fd ps sp) (hb : Binds K fd ps []) : FnR P w K mg base CX k f sp := by
  intro A outer s H us vs Q E hr e0 r h
  have there : K.In s.heap := e0.mod.kin.keeps (fun b o e => (e0.bs b o e).1)
  have len : (us ++ []).length = ps.length := by rw [List.append_nil, ← r.length]; exact ok.len _ _ _ _ h
  have hv := hb s us there len
  rw [List.append_nil] at hv
  exact ok.run A outer s H ⟨us, []⟩ us vs Q E hr e0 hv r h
section
variable {CX : CXT} {X : Cx} {x m : Str} {k : Nat} {ps : List Str} {sp : Sp} {e o : Expr} {es : List Expr} {ta tf : TE} {t : TA} {p pos apos : Pos} {C : Addr} {E : XK}
theorem pe_callY (c : CalY CX X.prog X.w X.K X.mg X.base x k ps sp) (room : Room k X.A) (hg : Gl X x) (pass : Passes CX X E) (ha : PA X (e :: es) t) (hdb : (x == ("__debug__" : Str)) = false := by decide)
    (he : starEach (e :: es) X.env = (false, eval e X.env) :: starEach es X.env := by rfl) (hpl : (backTo pos (starEach es X.env)).any (·.1) = false := by rfl) :
    PE X (.Call (.Name x p) (e :: es) [] pos) (tCall sp [] E t) := by
  obtain ⟨f, fd, ok, hm, kp, hb⟩ := c.ex
  exact pe_call ok room hg hm kp hb .nil pass ha hdb he hpl
theorem pe_makeY (c : MakY CX X.prog X.w X.K X.mg X.base C k ps sp) (room : Room (k + 1) X.A) (hg : Gl X x) (hm : X.mg x = some (.ref C)) (pass : Passes CX X E) (ha : PA X (e :: es) t) (hdb : (x == ("__debug__" : Str)) = false := by decide)
    (he : starEach (e :: es) X.env = (false, eval e X.env) :: starEach es X.env := by rfl) (hpl : (backTo pos (starEach es X.env)).any (·.1) = false := by rfl) :
    PE X (.Call (.Name x p) (e :: es) [] pos) (tMake C sp [] E t) := by
  obtain ⟨f, fd, ok, M, hb⟩ := c.ex
  exact pe_make M ok room hg hm hb .nil pass ha hdb he hpl
/-- x(e, ..), x a name of the def that holds the class -/
def tMakeVY (C : Addr) (sp : Sp) (E : XK) (tf : TE) (t : TA) : TE := fun σ H Q => tf σ H fun v H1 => v = .ref C ∧ tMake C sp [] E t σ H1 Q
theorem pe_makeVY (c : MakY CX X.prog X.w X.K X.mg X.base C k ps sp) (room : Room (k + 1) X.A) (pass : Passes CX X E) (hf : PE X (.Name x p) tf) (ha : PA X (e :: es) t)
    (he : starEach (e :: es) X.env = (false, eval e X.env) :: starEach es X.env := by rfl) (hpl : (backTo pos (starEach es X.env)).any (·.1) = false := by rfl) :
    PE X (.Call (.Name x p) (e :: es) [] pos) (tMakeVY C sp E tf t) := by
  obtain ⟨f, fd, ok, M, hb⟩ := c.ex
  refine ⟨fun pins s σ H Q I h => wpAny_Call_Name_kw (thn (hf.run pins s σ H _ I h) fun g s0 got => ?_)⟩
  obtain ⟨v, H0, I0, r0, rfl, q0⟩ := got
  cases r0
  exact PySem.W.callWith_K (h₀ := X.base) I0.ok.mod.kin M.kp (thn (ha.run pos pins s0 σ H0 _ I0 q0) fun us s1 ⟨vs, H1, I1, r, q⟩ => ⟨I1.kIn, run_make M ok room hb .nil pass I1 r q⟩) he hpl
theorem pe_cmethY {pl : Sem Bool} (c : CmtY CX X.prog X.w X.K X.mg X.base C m k ps sp) (room : Room k X.A) (pass : Passes CX X E) (ho : PE X o ta) (ha : PA X (e :: es) t)
    (hst : starEach (e :: es) X.env = (false, eval e X.env) :: starEach es X.env := by rfl) (hpl : (backTo pos (starEach es X.env)).any (·.1) = false := by rfl)
    (ht : eval (.Call (.Attribute o m apos) (e :: es) [] pos) X.env = (do
      let ov ← eval o X.env
      standAt apos.atName
      let (f, first) ← holding [ov] (getMethod ov m pl)
      callWith pos f first (backTo pos (starEach (e :: es) X.env)) (backToKw pos (keywordEach [] X.env))) := by rfl) :
    PE X (.Call (.Attribute o m apos) (e :: es) [] pos) (ClX.tCMeth C sp E ta t) := by
  obtain ⟨f, fd, mc, p, ok, hr, hm, hb⟩ := c.ex
  exact ClX.pe_cmeth ho hr hm (FnR.ofY ok hb) room pass ha hst hpl ht
end


end My
namespace My
open PySem PySem.Spec PyProof.Rows L2 TL
/-! ### a comprehension whose item may raise, contexts kept -/
section
variable {X : Cx} {pins : List (Addr × Obj)} {σ : L2.St} {H3 H1 : Hp} {s3 t0 t : Shared} {C : Addr} {fp : List Addr} {E : XK} {use : Option (Value → Sem Unit)} {Q : Value → Shared → Prop} {acc u : Value} {ce : Env}
/-- what a call lets out within the block of a def's comprehension leaves the block, its variables let go -/
theorem air_outN (top : X.stack = X.env :: X.outer) (own : X.env.frame = some X.env.locals) (tk : L2N.Takes X (fun cls d _ H => E cls d H)) (I3 : Inv X pins σ H3 s3) (f3 : ∀ b ∈ fp, FpOk X pins H3 b) (hC : C = s3.heap.objs.size) (nC3 : H3 C = none)
    (os : t0.os = s3.os) (un : Un (frs X.stack) fp H3 H1 s3.heap t0.heap) (nC : H1 C = none) (ns : ∃ m, t0.heap.Ns C m) (c : L2N.CX X.prog X.w X.stack H1 t0 E u t) (fr : ce.frame = X.env.frame) :
    notedBy (model X.prog X.w) X.A ce (fun e s' => endsC (model X.prog X.w) X.A X.xe use Q acc C X.env.frame (.error e) s') u t := by
  obtain ⟨a, B, H2, cls, d, rfl, fl, hok, ub, na, os2, ag, hE⟩ := c
  obtain ⟨m, oC, esC, epC, hoC, hdC, hmC⟩ := ns
  have fC : FpOk X pins H3 C := I3.fpOk (Nat.le_of_eq hC.symm) nC3
  have nst : C ∉ frs X.stack := fun z => by
    rcases List.mem_cons.mp (I3.stkSub C z) with e | e
    · exact fC.2.1 e
    · exact fC.2.2.1 e
  have BC := ub.keep C oC hoC nC nst
  have nC2 := ub.free C oC hoC nC
  have st : B.StaysIn t.heap := fl.1
  have lt3 : ∀ b o, s3.heap.get? b = some o → b ≠ C := fun b o e z => by
    have h1 := Heap.lt_size e
    rw [z, hC] at h1
    exact Nat.lt_irrefl _ h1
  -- the ground without the block's variables
  obtain ⟨B2, b1, b2⟩ := restrict B fun b => decide (b ≠ C)
  have le2 : ∀ b o, B2.get? b = some o → B.get? b = some o ∧ b ≠ C := fun b o e => by
    by_cases hb : b = C
    · rw [b2 b (by simp [hb])] at e
      cases e
    · rw [b1 b (by simp [hb])] at e
      exact ⟨e, hb⟩
  have in2 : ∀ b o, b ≠ C → B.get? b = some o → B2.get? b = some o := fun b o hb e => by
    rw [b1 b (by simp [hb])]
    exact e
  have no2 : ∀ b, B.get? b = none → B2.get? b = none := fun b e => by
    cases q : B2.get? b with
    | none => rfl
    | some o =>
      have z := (le2 b o q).1
      rw [e] at z
      cases z
  obtain ⟨G, g1, g2⟩ := restrict t.heap fun b => (B2.get? b).isSome || decide (b ∈ frs X.stack)
  have gB : ∀ b o, B2.get? b = some o → G.get? b = some o := fun b o e => by
    rw [g1 b (by simp [e])]
    exact st b o (le2 b o e).1
  have gF : ∀ b, b ∈ frs X.stack → G.get? b = t.heap.get? b := fun b hb => g1 b (by simp [hb])
  have og : ∀ b o, G.get? b = some o → t.heap.get? b = some o ∧ ((B2.get? b).isSome = true ∨ b ∈ frs X.stack) := fun b o e => by
    cases q : ((B2.get? b).isSome || decide (b ∈ frs X.stack)) with
    | false =>
      rw [g2 b q] at e
      cases e
    | true =>
      rw [g1 b q] at e
      exact ⟨e, by simpa [Bool.or_eq_true] using q⟩
  have gC : ∀ b o, G.get? b = some o → b ≠ C := fun b o e z => by
    rcases (og b o e).2 with h | h
    · obtain ⟨o2, q⟩ := Option.isSome_iff_exists.mp h
      exact (le2 b o2 q).2 z
    · rw [z] at h
      exact nst h
  have okB : HOk X.prog X.w H2 G := fun b o q => (hok b o q).stay (fun c2 u2 hc r => gB c2 u2 (in2 c2 u2 (fun z => by
    rcases hc with hc | hc
    · rw [← hc, z, nC2] at q
      cases q
    · rw [z, nC2] at hc
      cases hc) r)) (fun _ r => r) fun _ _ r => r
  have J : Inv X pins σ H2 { s3 with heap := G, gens := t.gens, drawn := t.drawn, toks := t.toks } := by
    refine I3.call (ch := fp) ⟨?_, ?_, ?_, ?_, ?_, ?_, ?_⟩ okB ag fun b hb => ⟨(f3 b hb).2.2.2.1, (f3 b hb).2.1, (f3 b hb).2.2.2.2.1, (f3 b hb).2.2.2.2.2⟩
    · exact fun b o e n hf hp => gB b o (in2 b o (lt3 b o e) (ub.keep b o (un.keep b o e n hf hp) (un.free b o e n hp) hf))
    · intro b o e n hf hp
      obtain ⟨sl, e1⟩ := un.slot b o e n hf hp
      obtain ⟨sl2, e2⟩ := ub.slot b _ e1 hf
      exact ⟨sl2, by rw [gF b hf]; exact e2⟩
    · intro b o e n hp
      obtain ⟨o1, e1⟩ := un.there b o e hp
      exact ub.free b o1 e1 (un.free b o e n hp)
    · intro b o e hp
      obtain ⟨o1, e1⟩ := un.there b o e hp
      by_cases hf : b ∈ frs X.stack
      · obtain ⟨sl, e2⟩ := ub.slot b o1 e1 hf
        exact ⟨_, by rw [gF b hf]; exact e2⟩
      · obtain ⟨o2, e2⟩ := ub.there b o1 e1 hf
        exact ⟨o2, gB b o2 (in2 b o2 (lt3 b o e) e2)⟩
    · exact fun b xs e => ub.tups b xs (un.tups b xs e)
    · exact fun b o xs e => ub.frzs b o xs (un.frzs b o xs e)
    · intro b ps e
      obtain ⟨m1, e1⟩ := un.tbls b ps e
      obtain ⟨m2, e2⟩ := ub.tbls b _ e1
      exact ⟨m1 ++ m2, by rw [e2, Array.append_assoc]⟩
  have ground : ∀ b o, G.get? b = some o → b ∉ frs X.stack → B2.get? b = some o := fun b o e hb => by
    obtain ⟨e2, h⟩ := og b o e
    rcases h with h | h
    · obtain ⟨o2, q⟩ := Option.isSome_iff_exists.mp h
      have z := st b o2 (le2 b o2 q).1
      rw [e2] at z
      cases z
      exact q
    · exact absurd h hb
  have fl2 : HandSPX.FlyingZ B2 (X.env :: X.outer) a (L2N.Zn cls d) t.heap := by
    rw [← top]
    obtain ⟨_, hen, hl, oe, vs, T, oT, ts, he, hz, hd, h1, hnT, hTe, hT, hdT, h3⟩ := fl
    exact ⟨fun b o e => st b o (le2 b o e).1, no2 a hen, funFrames_none hl fun L hL => no2 L (hl.mem hL).1, oe, vs, T, oT, ts, he, hz, hd, h1, no2 T hnT, hTe, hT, hdT, h3⟩
  have frames : X.A.frames = some (X.env :: X.outer) := by rw [I3.ok.frames, top]
  show wpAny _ _ (noteFrame (.ref a) ce) _ _ _
  rw [note_frame fr]
  refine PXN.looks_onZ L2N.Zn.steady frames own fl2 fun h1 held up => ?_
  obtain ⟨slC, eC⟩ := up C oC (st C oC BC) fun vs z => by
    rw [hdC] at z
    cases z
  refine ⟨m, ⟨_, esC, epC, eC, hdC, hmC⟩, fun h2 sb ce2 eL eF => ?_⟩
  have k2 : ∀ b o, b ≠ C → h1.get? b = some o → h2.get? b = some o := fun b o hb e => (sb.2 b hb).trans e
  have held2 : HandSPX.HeldZ B2 (X.env :: X.outer) a (L2N.Zn cls d) X.env.locals h2 := by
    obtain ⟨x1, x2, x3, oe, vs, T, oT, ts, he, hz, hd, h1', hnT, hTe, hT, hdT, h3⟩ := held
    have rec_ : ∀ b o vs, h1.get? b = some o → o.data = .fields vs → b ≠ C := fun b o vs e dd z => by
      rw [z, eC] at e
      cases e
      have q : oC.data = .fields vs := dd
      rw [hdC] at q
      cases q
    refine ⟨fun b o e => k2 b o (le2 b o e).2 (x1 b o e), x2, frames_eq x3 fun L hL => sb.2 L fun z => nst (by rw [top, ← z]; exact hL), oe, vs, T, oT, ts, k2 a oe (rec_ a oe vs he hd) he, hz, hd, h1', hnT, hTe, k2 T oT (rec_ T oT ts hT hdT) hT, hdT, h3⟩
  have upG : G.UpToSlots h2 := fun b o e hnf => by
    obtain ⟨sl, e1⟩ := up b o (og b o e).1 hnf
    exact ⟨sl, k2 b _ (gC b o e) e1⟩
  obtain ⟨y1, y2, y3, oe, vs, T, oT, ts, he, hz, hd, hv1, hrest⟩ := id held2
  unfold PySem.passOn
  refine wpAny_bind (wpAny_field he hd hv1 ?_)
  rw [if_neg (show ¬ ((Value.ref T == Value.none) = true) by simp)]
  have done : wpAny (model X.prog X.w) X.A (setFlight (.ref a) ce2.frame) (fun _ s4 => wpAny (model X.prog X.w) X.A (throw (.ref a) : Sem Value) (fun _ _ => False) X.xe s4) X.xe { t with heap := h2 } := by
    rw [eF, own]
    refine HandSPX.setFlight_onZ held2 fun h4 held4 up4 => wpAny_throw (tk _ _ ?_)
    refine ⟨a, B2, _, pins, σ, H2, cls, d, rfl, J, ground, upG.trans up4, .inr (.inr ?_), na, os2.trans os, ag, hE⟩
    rw [top]
    exact held4
  first
    | exact wpAny_bind (wpAny_pure (wpAny_bind done))
    | exact wpAny_bind done
end
section
variable {X : Cx}
/-- the block with a wish for exceptions -/
abbrev blkWN (X : Cx) (s : Shared) (H : Hp) (sco : Scope) (ce : Env) (fp : List Addr) (xe : Value → Shared → Prop) : Cx := (X.blk s H sco ce fp).wish xe
theorem lc_coreN {pins : List (Addr × Obj)} {s : Shared} {σ : L2.St} {H : Hp} {Q : VK} {elt tg iter : Expr} {ifs : List Expr} {sco : Scope} {own : List (Str × Nat)} {pos pos2 : Pos} {wi : TI} {g : TG} {tt : TT} {te : TE} {use : Option (Value → Sem Unit)} {Qf : Value → Shared → Prop} {E : XK}
    (top : X.stack = X.env :: X.outer) (ownF : X.env.frame = some X.env.locals) (tk : L2N.Takes X (fun cls d _ H => E cls d H)) (hc : X.calm = true) (hN : X.N.Nodup) (I : Inv X pins σ H s) (hi : PI X tg iter wi) (ok : BlkOk X.N X.env.scope sco own)
    (hg : ∀ (s : Shared) (H : Hp) (C : Addr) (cl : List (Str × Addr)) (fp : List Addr), PG (X.blk s H sco (compEnvC sco cl C X.env) fp) tg g) (ht : ∀ (s : Shared) (H : Hp) (C : Addr) (cl : List (Str × Addr)) (fp : List Addr), PTs (X.blk s H sco (compEnvC sco cl C X.env) fp) ifs tt)
    (he : ∀ (s : Shared) (H : Hp) (C : Addr) (cl : List (Str × Addr)) (fp : List Addr) (xe : Value → Shared → Prop), Passes (L2N.CX X.prog X.w) (blkWN X s H sco (compEnvC sco cl C X.env) fp xe) E → PE (blkWN X s H sco (compEnvC sco cl C X.env) fp xe) elt te)
    (hs : ∀ x, foldedSetIterable iter X.env x = pure x) (h : tLc wi g tt te (own.map (·.2)) σ H Q)
    (fin : ∀ D C s' m H', Inv X pins σ H' s' → Q (.ref D) H' → s'.heap.Ns C m → FpOk X pins H' C → compPost (model X.prog X.w) X.A X.xe use Qf (.ref D) C (.ok .next) s') :
    wpAny (model X.prog X.w) X.A (comprehension (.ListComp elt [⟨tg, iter, ifs, 0⟩] sco pos) sco X.env pos2 (newList []) false (eval iter X.env) use) Qf X.xe s := by
  have caught : ∀ y ∈ sco.names, y.2 = .free → ∃ c, X.env.cells.lookup y.1 = some c := by
    intro y hy e
    rcases ok.free y hy e with k | k
    · exact I.ok.has _ (.inl k)
    · exact I.ok.has _ (.inr k)
  refine comp_ends (use := use) rfl hs (closure_ok caught) ok.kind (fun y hy e => by rw [ok.uniq y hy, e]) (thn (hi.run pins s σ H _ I h) ?_)
  intro xv s1 hx
  refine thn hx ?_
  intro itv s2 h2
  obtain ⟨it, fp, tn, J, H2, rfl, I2, T, go2, f2, q⟩ := h2
  refine wpAny_newObj_type ?_ (Nat.zero_le _)
  refine newEnv_comp ?_
  generalize hD : s2.heap.objs.size = D
  obtain ⟨W, ⟨m0, w0⟩, turn⟩ := q D (I2.hok.fresh (Nat.le_of_eq hD))
  generalize hs3 : ({ s2 with heap := s2.heap.push { cls := .type "list", data := .seq ([] : List Value).toArray } } : Shared) = s3
  have e3 : s3.heap = s2.heap.push { cls := .type "list", data := .seq ([] : List Value).toArray } := congrArg Shared.heap hs3.symm
  have I3 : Inv X pins σ (upd H2 D (.lst [])) s3 := by
    subst hs3
    refine I2.laid (t' := s2.toks) (fun b o e => Heap.get?_push_of_some _ e) (Nat.le_of_eq hD) ⟨Nat.zero_le _, [], 0, .nil, ?_⟩
    subst hD
    exact Heap.get?_push_size _ rfl
  have f3 : ∀ b ∈ fp, FpOk X pins (upd H2 D (.lst [])) b ∧ b < s3.heap.objs.size := by
    intro b hb
    obtain ⟨o, e, _⟩ := T.obj _ _ go2 b hb
    have lt := Heap.lt_size e
    obtain ⟨z0, z⟩ := f2 b hb
    refine ⟨⟨?_, z⟩, ?_⟩
    · rw [upd_ne (fun y => Nat.ne_of_lt lt (y.trans hD.symm))]
      exact z0
    · rw [e3, Heap.size_push]
      exact Nat.lt_succ_of_lt lt
  have go3 : tn 0 s3.heap := T.keep _ _ _ go2 (by
    intro b _ o e
    rw [e3]
    exact Heap.get?_push_of_some _ e)
  have I4 := block_start I3 ok hN f3
  have pg := hg s3 (upd H2 D (.lst [])) s3.heap.objs.size (cellsFrom (s3.heap.objs.size + 1) sco.names (cloFrom X.env.cells sco.names [])) fp
  have pt := ht s3 (upd H2 D (.lst [])) s3.heap.objs.size (cellsFrom (s3.heap.objs.size + 1) sco.names (cloFrom X.env.cells sco.names [])) fp
  have pe := he s3 (upd H2 D (.lst [])) s3.heap.objs.size (cellsFrom (s3.heap.objs.size + 1) sco.names (cloFrom X.env.cells sco.names [])) fp
  show codeAny _ _ (.compStart _ 0 (.ref it) (.ref D) (compEnvC sco (cellsFrom (s3.heap.objs.size + 1) sco.names (cloFrom X.env.cells sco.names [])) s3.heap.objs.size X.env))
    (endsC (model X.prog X.w) X.A X.xe use Qf (.ref D) s3.heap.objs.size X.env.frame) { s3 with heap := pushCells (s3.heap.push { cls := .type "dict", data := .dict #[] }) sco.names }
  have n3 : ∀ b ∈ fp, (upd H2 D (.lst [])) b = none := fun b hb => (f3 b hb).1.1
  generalize hce : compEnvC sco (cellsFrom (s3.heap.objs.size + 1) sco.names (cloFrom X.env.cells sco.names [])) s3.heap.objs.size X.env = ce at I4 pg pt pe ⊢
  have cL : ce.locals = s3.heap.objs.size := by rw [← hce]; rfl
  have cF : ce.frame = X.env.frame := by rw [← hce]; rfl
  generalize upd H2 D (.lst []) = H3 at I3 I4 pg pt pe w0 n3 f3
  have nC3 : H3 s3.heap.objs.size = none := I3.hok.fresh (Nat.le_refl _)
  generalize hs4 : ({ s3 with heap := pushCells (s3.heap.push { cls := .type "dict", data := .dict #[] }) sco.names } : Shared) = s4 at I4 ⊢
  have go4 : tn 0 s4.heap := T.keep _ _ _ go3 (by
    intro b _ o e
    rw [← hs4]
    exact pushCells_keeps _ _ _ _ (Heap.get?_push_of_some _ e))
  -- the block's own places stay out of sight
  have stat : ∀ {σ' : L2.St} {H' : Hp} {s' : Shared}, Inv (X.blk s3 H3 sco ce fp) [] σ' H' s' → (∀ b ∈ fp, H' b = none) → ∀ b ∈ fp, FpOk (X.blk s3 H3 sco ce fp) [] H' b := by
    intro σ' H' s' K n b hb
    obtain ⟨k1, k2⟩ := K.ok.exf b hb
    exact ⟨n b hb, k1, K.ok.exfs b hb, .inl hb, fun x c e => k2 x c e, fun p hp => by cases (show p ∈ ([] : List (Addr × Obj)) from by simpa using hp)⟩
  have nsOf : ∀ {ps : List (Addr × Obj)} {σ' : L2.St} {H' : Hp} {s' : Shared}, Inv (X.blk s3 H3 sco ce fp) ps σ' H' s' → (∃ m, s'.heap.Ns s3.heap.objs.size m) ∧ H' s3.heap.objs.size = none := by
    intro ps σ' H' s' K
    obtain ⟨m, n, _⟩ := K.loc
    have n : s'.heap.Ns ce.locals m := n
    have f : H' ce.locals = none := K.free
    rw [cL] at n f
    exact ⟨⟨m, n⟩, f⟩
  -- what the item may let out
  let air : Value → Shared → Prop := fun u t => ∃ ps σ' H' t0, Inv (X.blk s3 H3 sco ce fp) ps σ' H' t0 ∧ L2N.CX X.prog X.w X.stack H' t0 E u t
  have leaves : ∀ u t, air u t → notedBy (model X.prog X.w) X.A ce (fun e s' => endsC (model X.prog X.w) X.A X.xe use Qf (.ref D) s3.heap.objs.size X.env.frame (.error e) s') u t := by
    rintro u t ⟨ps, σ', H', t0, K, c⟩
    obtain ⟨ns, nC⟩ := nsOf K
    exact air_outN top ownF tk I3 (fun b hb => (f3 b hb).1) rfl nC3 K.os K.base nC ns c cF
  have pe2 := pe air fun ps σ' H' t0 u t K c => ⟨ps, σ', H', t0, K.unwish, c⟩
  have loop : codeAny (model X.prog X.w) X.A (.compLoop (.ListComp elt [⟨tg, iter, ifs, 0⟩] sco pos) 0 (.ref it) (.ref D) ce) (endsC (model X.prog X.w) X.A X.xe use Qf (.ref D) s3.heap.objs.size X.env.frame) s4 := by
    refine compLoop_any (fun n s' => ∃ i H', Inv (X.blk s3 H3 sco ce fp) [] (wipe σ (own.map (·.2))) H' s' ∧ tn i s'.heap ∧ (∀ b ∈ fp, H' b = none) ∧ W i n H') ?_ m0 ⟨0, H3, I4, go4, n3, w0⟩
    rintro n s5 ⟨i, H5, I5, go5, n5, w5⟩
    rcases turn i n H5 w5 with ⟨stop, qq⟩ | ⟨go, Nx, hNx, step⟩
    · refine thnF (T.done (X.blk s3 H3 sco ce fp) rfl rfl rfl hc i [] s5 _ H5 (fun _ _ => False) I5 (stat I5 n5) go5 stop) ?_
      rintro r s6 ⟨rfl, I6⟩
      obtain ⟨⟨m, ns⟩, nC⟩ := nsOf I6
      exact fin D _ s6 m H5 (I3.call' (ch := fp) I6.os I6.base I6.hok I6.bare fun b hb => ⟨(f3 b hb).1.2.2.2.1, (f3 b hb).1.2.1, (f3 b hb).1.2.2.2.2.1, (f3 b hb).1.2.2.2.2.2⟩) qq ns (I3.fpOk (Nat.le_refl _) nC)
    · refine thnF (T.item (X.blk s3 H3 sco ce fp) rfl rfl rfl hc i [] s5 _ H5 (fun _ _ => False) I5 (stat I5 n5) go5 go) ?_
      rintro r s6 ⟨u, rfl, h6⟩
      refine thnF h6 ?_
      rintro _ s7 ⟨x, H7, I7, r7, y7, go7, n7⟩
      have I7p := I7.pinned (stat I7 n7) (T.obj _ _ go7)
      refine thnF (pg.run _ s7 _ H7 x u _ I7p r7 (step x H7 y7)) ?_
      rintro _ s8 ⟨σ8, H8, I8, w8, q8⟩
      refine thnF (pt.run _ s8 σ8 H8 _ I8 q8) ?_
      rintro b s9 ⟨H9, I9, q9⟩
      -- the turn's end
      have turned : ∀ {s' : Shared} {H' : Hp}, Inv (X.blk s3 H3 sco ce fp) ([] ++ pinsAt fp s7.heap) σ8 H' s' → Nx H' → ∃ m, m < n ∧ ∃ i H', Inv (X.blk s3 H3 sco ce fp) [] (wipe σ (own.map (·.2))) H' s' ∧ tn i s'.heap ∧ (∀ b ∈ fp, H' b = none) ∧ W i m H' := by
        intro s' H' K nx
        obtain ⟨m, lt, w⟩ := hNx H' nx
        have pinned : ∀ b ∈ fp, ∀ o, s7.heap.get? b = some o → s'.heap.get? b = some o ∧ H' b = none := by
          intro b hb o e
          obtain ⟨z1, z2, _⟩ := K.pin (b, o) (List.mem_append_right _ (List.mem_append_right _ (mem_pinsAt hb e)))
          exact ⟨z1, z2⟩
        refine ⟨m, lt, i + 1, H', (K.unpinned (pins := [])).weak (by rw [← w8, wipe_length]) ?_, T.keep _ _ _ go7 fun b hb o e => (pinned b hb o e).1, ?_, w⟩
        · intro j v e
          rw [← w8] at e
          exact (wipe_some e).1
        · intro b hb
          obtain ⟨o, e, _⟩ := T.obj _ _ go7 b hb
          exact (pinned b hb o e).2
      cases b with
      | false =>
        rw [if_neg Bool.false_ne_true] at q9 ⊢
        exact turned I9 q9
      | true =>
        rw [if_pos rfl] at q9 ⊢
        refine wpAny_mono (pe2.run _ s9 σ8 H9 _ (I9.wish air) q9) ?_ leaves
        rintro z s10 ⟨yv, H10, I10, r10, acc, hD10, hz10, nx⟩
        exact app_ok (X := X.blk s3 H3 sco ce fp) I10.unwish hD10 hz10 r10 fun s11 I11 => turned I11 nx
  exact codeAny_compStart_list loop (T.self X.A 0 _ _ _ go4 loop)
/-- as a value -/
theorem pe_lcN {elt tg iter : Expr} {ifs : List Expr} {sco : Scope} {own : List (Str × Nat)} {pos : Pos} {wi : TI} {g : Dep TG} {tt : Dep TT} {te : Dep TE} {E : XK} (hc : X.calm = true) (hN : X.N.Nodup)
    (top : X.stack = X.env :: X.outer) (ownF : X.env.frame = some X.env.locals) (tk : L2N.Takes X (fun cls d _ H => E cls d H)) (hi : PI X tg iter wi) (ok : BlkOk X.N X.env.scope sco own)
    (hg : ∀ (s : Shared) (H : Hp) (C : Addr) (cl : List (Str × Addr)) (fp : List Addr), PG (X.blk s H sco (compEnvC sco cl C X.env) fp) tg (g s H C cl fp)) (ht : ∀ (s : Shared) (H : Hp) (C : Addr) (cl : List (Str × Addr)) (fp : List Addr), PTs (X.blk s H sco (compEnvC sco cl C X.env) fp) ifs (tt s H C cl fp))
    (he : ∀ (s : Shared) (H : Hp) (C : Addr) (cl : List (Str × Addr)) (fp : List Addr) (xe : Value → Shared → Prop), Passes (L2N.CX X.prog X.w) (blkWN X s H sco (compEnvC sco cl C X.env) fp xe) E → PE (blkWN X s H sco (compEnvC sco cl C X.env) fp xe) elt (te s H C cl fp))
    (hs : ∀ x, foldedSetIterable iter X.env x = pure x := by intro _; rfl) (eg : ∀ s H C cl fp, g s H C cl fp = g.at X := by intros; rfl) (et : ∀ s H C cl fp, tt s H C cl fp = tt.at X := by intros; rfl) (ee : ∀ s H C cl fp, te s H C cl fp = te.at X := by intros; rfl) :
    PE X (.ListComp elt [⟨tg, iter, ifs, 0⟩] sco pos) (tLc wi (g.at X) (tt.at X) (te.at X) (own.map (·.2))) := by
  refine ⟨?_⟩
  intro pins s σ H Q I h
  rw [eval_ListComp]
  refine lc_coreN top ownF tk hc hN I hi ok (fun s H C cl fp => eg s H C cl fp ▸ hg s H C cl fp) (fun s H C cl fp => et s H C cl fp ▸ ht s H C cl fp) (fun s H C cl fp xe hp => ee s H C cl fp ▸ he s H C cl fp xe hp) hs h ?_
  rintro D C t m H2 J q n ⟨f0, f1, f2, f3, f4, f5⟩
  refine ⟨m, n, fun h2 sb => ⟨.ref D, H2, J.turned (t' := t.toks) (fun b o hb e => ?_) f0 f1 f3 f4 f5, rfl, q⟩⟩
  exact (sb.2 b hb).trans e
/-- name = [..] on one line -/
theorem ps_setLcN {i : Nat} {y : Str} {py : Pos} {elt tg iter : Expr} {ifs : List Expr} {sco : Scope} {own : List (Str × Nat)} {pos spos : Pos} {wi : TI} {g : Dep TG} {tt : Dep TT} {te : Dep TE} {E : XK} (hc : X.calm = true) (hN : X.N.Nodup) (hy : X.N[i]? = some y) (hyl : X.env.scope.names.lookup y = some .local)
    (hsw : swapsWith (.ListComp elt [⟨tg, iter, ifs, 0⟩] sco pos) (some (.Name y py)) spos.line X.env = pure true) (top : X.stack = X.env :: X.outer) (ownF : X.env.frame = some X.env.locals) (tk : L2N.Takes X (fun cls d _ H => E cls d H)) (hi : PI X tg iter wi) (ok : BlkOk X.N X.env.scope sco own)
    (hg : ∀ (s : Shared) (H : Hp) (C : Addr) (cl : List (Str × Addr)) (fp : List Addr), PG (X.blk s H sco (compEnvC sco cl C X.env) fp) tg (g s H C cl fp)) (ht : ∀ (s : Shared) (H : Hp) (C : Addr) (cl : List (Str × Addr)) (fp : List Addr), PTs (X.blk s H sco (compEnvC sco cl C X.env) fp) ifs (tt s H C cl fp))
    (he : ∀ (s : Shared) (H : Hp) (C : Addr) (cl : List (Str × Addr)) (fp : List Addr) (xe : Value → Shared → Prop), Passes (L2N.CX X.prog X.w) (blkWN X s H sco (compEnvC sco cl C X.env) fp xe) E → PE (blkWN X s H sco (compEnvC sco cl C X.env) fp xe) elt (te s H C cl fp))
    (hs : ∀ x, foldedSetIterable iter X.env x = pure x := by intro _; rfl) (eg : ∀ s H C cl fp, g s H C cl fp = g.at X := by intros; rfl) (et : ∀ s H C cl fp, tt s H C cl fp = tt.at X := by intros; rfl) (ee : ∀ s H C cl fp, te s H C cl fp = te.at X := by intros; rfl) :
    PS X (.Assign [.Name y py] (.ListComp elt [⟨tg, iter, ifs, 0⟩] sco pos) spos) (tAsg (tLc wi (g.at X) (tt.at X) (te.at X) (own.map (·.2))) (gName i)) := by
  refine ⟨?_⟩
  intro pins s σ H D I h
  rw [exec_Assign_Name_used _ _ _ _ hsw]
  refine wpAny_bind (wpAny_standAt (wpAny_bind ?_))
  show wpAny _ X.A (do let _ ← comprehension (.ListComp elt [⟨tg, iter, ifs, 0⟩] sco pos) sco X.env (firstIterPos [⟨tg, iter, ifs, 0⟩] pos) (newList []) false (eval iter X.env) (some (assign (.Name y py) X.env))) _ _ s
  have h : tLc wi (g.at X) (tt.at X) (te.at X) (own.map (·.2)) σ H (fun x H1 => gName i x σ H1 D.nx) := h
  refine wpAny_bind (thn (lc_coreN (Qf := fun _ s' => SP X pins D .next s') top ownF tk hc hN I hi ok (fun s H C cl fp => eg s H C cl fp ▸ hg s H C cl fp) (fun s H C cl fp => et s H C cl fp ▸ ht s H C cl fp) (fun s H C cl fp xe hp => ee s H C cl fp ▸ he s H C cl fp xe hp) hs h ?_) fun _ t hq => wpAny_pure (wpAny_pure hq))
  rintro L C t m H2 J q n ⟨f0, f1, f2, f3, f4, f5⟩
  show wpAny _ _ (assign (.Name y py) X.env (.ref L)) _ _ _
  refine wpAny_assign_Name (store_ok2 (v := V.ref L) J hN hy (.inl hyl) rfl ?_ (.inr hyl))
  rintro t2 J2 ⟨a, sb, ha⟩
  have ne : C ≠ a := by
    rcases ha with z | z
    · rw [z]
      exact f1
    · exact fun e => f4 y a z e.symm
  refine ⟨m, n.sameBut sb ne, fun h3 sb3 => ⟨_, H2, J2.turned (t' := t2.toks) (fun b o hb e => ?_) f0 f1 f3 f4 f5, q⟩⟩
  exact (sb3.2 b hb).trans e
end


end My
namespace My
open PySem PySem.Spec PyProof.Rows L2 TL
set_option pp.maxSteps 3000
set_option pp.deepTerms false
/-! ### Type(..) that may be too large, or have no word for an atom -/
/-- the type fits and is made, or InvalidType or InvalidWord is raised -/
def sp_Type_initN (K : PySem.W.Frag) (C CE CW : Addr) : Sp := fun vs H Q E => ∃ x dx p rs l a, vs = [.ref x, .ref p, .str a] ∧ H x = some (.ins C dx []) ∧ H p = some (.tup rs) ∧ IsTs C H l rs ∧ ((∀ t ∈ l, t.Fits) ∧ l.length ≤ 40 ∧ a.length ≤ 1000 ∧ ∀ c ∈ a.cps.toList, c < 128) ∧
  ((Ty.mk l a).Fits → ∀ q H', (∀ b o, b ≠ x → H b = some o → H' b = some o) → H' x = some (.ins C dx [("_inputs", .ref p), ("_atom", .str a), ("_places", .ref q), ("_order", .int ((Ty.mk l a).order : Nat)), ("_text", .str (Ty.mk l a).text)]) →
    H' q = some (.tup ((Ty.mk l a).places.map V.str)) → Q .non H') ∧
  (isW (.str a) = true → ¬ (Ty.mk l a).Fits → ∀ H', Same H H' → E (.ref CE) none H') ∧
  (isW (.str a) = false → ∀ H', Same H H' → E (.ref CW) none H')
section
variable {P : Program} {w : World} {K : PySem.W.Frag} {mg : Str → Option Value} {base : Heap} {C_Type C_InvalidType C_InvalidWord : Addr}
theorem ok_Type_initN (T : Txt K mg C_Type) (e_InvalidType : ErrT K mg "InvalidType" C_InvalidType) (e_InvalidWord : ErrT K mg "InvalidWord" C_InvalidWord) (c__is_tuple_of_types : CalN P w K mg base "_is_tuple_of_types" 1 ["value"] (sp__is_tuple_of_types K C_Type)) (c_is_word : CalN P w K mg base "is_word" 1 ["value"] (sp_is_word K)) (p_Type_order : PrpC P w K mg base C_Type "order" 1 ["self"] (getSp C_Type "_order")) (c__text_inside : CalN P w K mg base "_text_inside" 3 ["wanted"] (sp__text_inside K C_Type)) {f : Addr} {fd : FuncData} (F : Fun K "__init__" "Type.__init__" s_Type___init__ f fd) : FnOk P w K mg base (L2N.CX P w) 4 f fd ["self", "inputs", "atom"] (sp_Type_initN K C_Type C_InvalidType C_InvalidWord) := by
  have nd := sc_Type___init__.nd
  refine F.okCN sc_Type___init__ (fun vs H Q E h => ?_) (fun cdv A outer s H vs Q E hr h => ?_)
  · obtain ⟨x, dx, p, rs, l, a, rfl, _⟩ := h
    rfl
  · obtain ⟨x, dx, p, rs, l, a, rfl, hx, hp, hl, ⟨fit1, fit2, al, asc⟩, q, qE, qW⟩ := h
    refine ⟨_, (pss_cons (ps_if (pt_not (pt_val (pe_callN c__is_tuple_of_types (hr.mono (by first | decide | omega)) rfl (pa_cons (pv 1) pa_nil)))) (pss_one (L2N.ps_raise rfl (L2N.takes_of rfl rfl rfl rfl) (L2N.pmk_own PySem.F.excBase_ValueError e_InvalidType.exc e_InvalidType.g e_InvalidType.k (raises_own e_InvalidType.b e_InvalidType.t) rfl))) pss_nil)
      (pss_cons (ps_if (pt_not (pt_val (pe_callN c_is_word (hr.mono (by first | decide | omega)) rfl (pa_cons (pv 2) pa_nil)))) (pss_one (L2N.ps_raise rfl (L2N.takes_of rfl rfl rfl rfl) (L2N.pmk_own PySem.F.excBase_ValueError e_InvalidWord.exc e_InvalidWord.g e_InvalidWord.k (raises_own e_InvalidWord.b e_InvalidWord.t) rfl))) pss_nil)
      (pss_cons (ps_set (i := 3) nd rfl (.inl rfl) (pe_op op_cat (pe_lc2D (own := [("one", 5), ("word", 6)]) (vs1 := [6]) (by rfl) nd (pi_tup (pv 1)) (blkOk_by (own := [("one", 5), ("word", 6)]) (N := ["self", "inputs", "atom", "places", "order", "one", "word"]) (sc := (defScope s_Type___init__)) (by decide +kernel)) (by decide) (fun _ _ _ _ _ => pg_name (i := 5) nd rfl (Or.inl rfl)) (fun _ _ _ _ _ => pts_nil) (fun _ _ _ _ _ => (pi_tup (pe_fld (pv 5) rfl))) (fun _ _ _ _ _ => pg_name (i := 6) nd rfl (Or.inl rfl)) (fun _ _ _ _ _ => pts_nil) (fun _ _ _ _ _ => (pv 6))) (pe_lst (pa_cons (pv 2) pa_nil))))
      (pss_cons (ps_set (i := 4) nd rfl (.inl rfl) (pe_maxD rfl (by rfl) T.b_max (pe_lcD (own := [("one", 5)]) (by rfl) nd (pi_tup (pv 1)) (blkOk_by (own := [("one", 5)]) (N := ["self", "inputs", "atom", "places", "order", "one", "word"]) (sc := (defScope s_Type___init__)) (by decide +kernel)) (fun _ _ _ _ _ => pg_name (i := 5) nd rfl (Or.inl rfl)) (fun _ _ _ _ _ => pts_nil) (fun _ _ _ _ _ => (pe_op op_add (pe_propC p_Type_order T.k_Type (hr.mono (by first | decide | omega)) (pv 5)) pe_int))) pe_int))
      (pss_cons (ps_if (PW.pt (pw_or (pt_cmpR op_gt (pe_callB call_len (by rfl) T.b_len (by decide +kernel) (pa_cons (pv 3) pa_nil)) (pe_globE rfl T.g_MAX_PLACES) (nomark _)) (pw_or1 (pt_cmpR op_gt (pv 4) (pe_globE rfl T.g_MAX_ORDER) (nomark _))))) (pss_one (L2N.ps_raise rfl (L2N.takes_of rfl rfl rfl rfl) (L2N.pmk_own PySem.F.excBase_ValueError e_InvalidType.exc e_InvalidType.g e_InvalidType.k (raises_own e_InvalidType.b e_InvalidType.t) rfl))) pss_nil)
      (pss_cons (ps_fld (pv 0) (pv 1) rfl)
      (pss_cons (ps_fld (pv 0) (pv 2) rfl)
      (pss_cons (ps_fld (pv 0) (pe_callTy call_tuple_of (by rfl) T.b_tuple (by decide +kernel) (pa_cons (pv 3) pa_nil)) rfl)
      (pss_cons (ps_fld (pv 0) (pv 4) rfl)
      (pss_one (ps_fld (pv 0) (pe_join (pe_globE rfl T.g__ARROW) (pe_op op_cat (pe_lcD (own := [("one", 5)]) (by rfl) nd (pi_tup (pv 1)) (blkOk_by (own := [("one", 5)]) (N := ["self", "inputs", "atom", "places", "order", "one", "word"]) (sc := (defScope s_Type___init__)) (by decide +kernel)) (fun _ _ _ _ _ => pg_name (i := 5) nd rfl (Or.inl rfl)) (fun _ _ _ _ _ => pts_nil) (fun _ _ _ _ _ => (pe_callN c__text_inside (hr.mono (by first | decide | omega)) rfl (pa_cons (pv 5) pa_nil)))) (pe_lst (pa_cons (pv 2) pa_nil)))) rfl))))))))))), ?_⟩
    have pl : (Ty.mk l a).places = Ty.placesL l ++ [a] := by rw [Ty.places]
    have hrl := hl.len
    have len : l.length ≤ 40 := fit2
    -- the two looks
    refine ⟨.ref p, rfl, p, rs, l, rfl, hp, hl, by omega, fun H1 s1 => ⟨true, rfl, iteF ?_⟩⟩
    by_cases ww : isW (.str a) = true
    rotate_left
    · have wf : isW (.str a) = false := by
        cases z : isW (.str a) with
        | true => exact absurd z ww
        | false => rfl
      exact ⟨.str a, rfl, .str a, rfl, .inl ⟨a, rfl, al, asc⟩, fun H2 s2 => ⟨false, congrArg V.bl wf, iteT (qW wf H2 (s1.trans s2))⟩⟩
    have fit : Parts l a := ⟨fit1, fit2, ww, asc⟩
    replace qE := qE ww
    have few : (Ty.placesL l).length ≤ 600 := Nat.le_trans fit.places (by have := fit.few; omega)
    have aw := fit.word
    have al := isW_len aw.1
    refine ⟨.str a, rfl, .str a, rfl, .inl ⟨a, rfl, by omega, aw.2⟩, fun H2 s2 => ⟨true, congrArg V.bl aw.1, iteF ?_⟩⟩
    have s12 := s1.trans s2
    clear s1 s2
    -- places
    refine nx_go ?_
    dsimp only
    refine cut_set (fun v H' => ∃ d, v = .ref d ∧ H' d = some (.lst ((Ty.mk l a).places.map V.str)) ∧ Same H H') (fun Q' q' => ?_) ?_
    · refine ⟨.ref p, rfl, p, rfl, ⟨rs, SqT.of (s12 _ _ hp)⟩, fun D hD => ?_⟩
      have nD : H D = none := s12.free hD
      refine walk_tup (xs := rs) (fun i H' => H' D = some (.lst ((Ty.placesL (l.take i)).map V.str)) ∧ Same H H') ?_ (fun i H' _ hP => SqT.of (hP.2 _ _ hp)) (fun i y H' hy hP => ?_) (fun H' hP => ?_)
      · exact ⟨by rw [upd_same, List.take_zero, Ty.placesL_nil]; rfl, s12.mut nD⟩
      · obtain ⟨hD1, s1⟩ := hP
        obtain ⟨t, et, ht⟩ := hl.get hy
        obtain ⟨b, dx', p', q', rs', rfl, hb, _, _, hq⟩ := (IsT.same s1 t y ht).at
        have tl : t.places.length ≤ 600 := Nat.le_trans (Ty.few_ins (List.mem_of_getElem? et)) few
        refine ⟨rfl, tyes ?_⟩
        refine ⟨.ref b, rfl, b, C_Type, dx', _, .ref q', rfl, hb, T.k_Type, T.x_Type.n_places, rfl, q', rfl, ⟨_, SqT.of hq⟩, ?_⟩
        refine walk_tup (xs := t.places.map V.str) (fun j H'' => H'' D = some (.lst ((Ty.placesL (l.take i) ++ t.places.take j).map V.str)) ∧ Same H H'' ∧ H'' q' = some (.tup (t.places.map V.str))) ?_ (fun i H' _ hP => SqT.of hP.2.2) (fun j y H'' hy2 hP => ?_) (fun H'' hP => ?_)
        · exact ⟨by rw [List.take_zero, List.append_nil]; exact hD1, s1, hq⟩
        · obtain ⟨hD2, s2, hq2⟩ := hP
          rw [List.getElem?_map] at hy2
          cases hz : t.places[j]? with
          | none =>
            rw [hz] at hy2
            cases hy2
          | some z =>
            rw [hz] at hy2
            cases hy2
            have jl := lt_of_get hz
            have i14 : (Ty.placesL (l.take i)).length ≤ 600 := by
              have e : l = l.take i ++ l.drop i := (List.take_append_drop i l).symm
              have : (Ty.placesL l).length = (Ty.placesL (l.take i)).length + (Ty.placesL (l.drop i)).length := by
                rw [← List.length_append, ← Ty.placesL_append, ← e]
              omega
            refine ⟨rfl, tyes ?_⟩
            refine ⟨_, rfl, _, hD2, lt_line' ?_, ?_, s2.mut nD, ?_⟩
            · rw [List.length_map, List.length_append, List.length_take]
              omega
            · rw [upd_same, take_next hz, ← List.append_assoc, List.map_append (l₂ := [z])]
              rfl
            · rw [upd_ne (ne_of hq2 hD2 (fun z => nomatch z))]
              exact hq2
        · obtain ⟨hD2, s2, hq2⟩ := hP
          refine ⟨?_, s2⟩
          rw [hD2, List.length_map, List.take_length, take_next et, Ty.placesL_append, Ty.placesL_cons, Ty.placesL_nil, List.append_nil]
      · obtain ⟨hD1, s1⟩ := hP
        rw [hrl, List.take_length] at hD1
        refine ⟨.str a, rfl, by show 1 ≤ sizeLine; decide, fun d1 h1 => ?_⟩
        refine ⟨D, d1, _, [.str a], rfl, rfl, by rw [upd_ne (ne_of_none hD1 h1)]; exact hD1, upd_same, lt_line (by rw [List.length_map]; show _ + 1 ≤ _; omega), fun d2 h2 => ?_⟩
        refine q' _ _ ⟨d2, rfl, ?_, (s1.new h1).new h2⟩
        rw [upd_same, pl, List.map_append]
        rfl
    rintro v H3 ⟨dp, rfl, hdp, s3⟩
    refine cut_set (fun v H' => v = .int (((Ty.mk l a).order : Nat) : Int) ∧ H' dp = some (.lst ((Ty.mk l a).places.map V.str)) ∧ Same H H') (fun Q' q' => ?_) ?_
    · refine ⟨.ref p, rfl, p, rfl, ⟨rs, SqT.of (s3 _ _ hp)⟩, fun D hD => ?_⟩
      have nD : H D = none := s3.free hD
      refine lc_tup (xs := rs) (fun i H' => H' D = some (.lst (((l.take i).map (fun t => ((t.order : Nat) : Int) + 1)).map V.int)) ∧ H' dp = some (.lst ((Ty.mk l a).places.map V.str)) ∧ Same H H') ?_ (fun i H' _ hP => SqT.of (hP.2.2 _ _ hp)) (fun i y H' hy hP => ?_) (fun H' hP => ?_)
      · exact ⟨by rw [upd_same, List.take_zero]; rfl, by rw [upd_ne (ne_of_none hdp hD)]; exact hdp, s3.mut nD⟩
      · obtain ⟨hD1, hd1, s1⟩ := hP
        obtain ⟨t, et, ht⟩ := hl.get hy
        obtain ⟨b, dx', p', q', rs', rfl, hb, _⟩ := (IsT.same s1 t y ht).at
        have io := lt_of_get hy
        rw [hrl] at io
        refine ⟨rfl, tyes ?_⟩
        refine ⟨.ref b, rfl, b, dx', _, rfl, hb, b, dx', _, .int ((t.order : Nat) : Int), rfl, hb, rfl, ((t.order : Nat) : Int), 1, rfl, rfl, _, hD1, lt_line' ?_, ?_, ?_, s1.mut nD⟩
        · rw [List.length_map, List.length_map, List.length_take]
          omega
        · rw [upd_same, take_next et, List.map_append, List.map_append]
          rfl
        · rw [upd_ne]
          · exact hd1
          · intro e
            subst e
            rw [hdp] at hD
            cases hD
      · obtain ⟨hD1, hd1, s1⟩ := hP
        rw [hrl, List.take_length] at hD1
        refine ⟨_, rfl, D, l.map (fun t => ((t.order : Nat) : Int) + 1), 0, rfl, rfl, SqL.of hD1, fun m h0 h1 => q' _ _ ⟨?_, hd1, s1⟩⟩
        rw [Ty.orderL_max l m h0 h1, Ty.order]
    rintro v H4 ⟨rfl, hd4, s4⟩
    by_cases hn : (Ty.mk l a).places.length ≤ 15
    rotate_left
    · refine ⟨.ref dp, rfl, _, _, rfl, .inl ⟨_, SqL.of hd4, rfl⟩, _, _, rfl, rfl, true, congrArg V.bl (decide_eq_true (by rw [List.length_map]; omega)), iteT (iteT ?_)⟩
      exact qE (fun f => hn f.few) H4 s4
    refine ⟨.ref dp, rfl, _, _, rfl, .inl ⟨_, SqL.of hd4, rfl⟩, _, _, rfl, rfl, false, congrArg V.bl (decide_eq_false (by rw [List.length_map]; omega)), iteF ?_⟩
    by_cases ho : (Ty.mk l a).order ≤ 4
    rotate_left
    · refine ⟨_, rfl, _, _, rfl, rfl, true, congrArg V.bl (decide_eq_true (by omega)), iteT ?_⟩
      exact qE (fun f => ho f.low) H4 s4
    refine ⟨_, rfl, _, _, rfl, rfl, false, congrArg V.bl (decide_eq_false (by omega)), iteF ?_⟩
    clear qE
    replace fit := fit.fits hn ho
    obtain ⟨fw, fn, fo⟩ := id fit
    replace few : (Ty.placesL l).length ≤ 14 := by
      rw [pl, List.length_append] at fn
      exact Nat.le_of_succ_le_succ fn
    replace len : l.length ≤ 14 := Nat.le_trans (Ty.len_placesL l) few
    replace q := q fit
    refine nx_go ?_
    dsimp only
    have hx4 := s4 _ _ hx
    refine ⟨.ref p, rfl, .ref x, rfl, x, C_Type, dx, _, rfl, hx4, T.k_Type, T.x_Type.n_inputs, by decide, ?_⟩
    rw [show putF "_inputs" (V.ref p) [] = [(("_inputs" : Str), V.ref p)] from rfl]
    refine ⟨.str a, rfl, .ref x, rfl, x, C_Type, dx, _, rfl, upd_same, T.k_Type, T.x_Type.n_atom, by show 1 < 1000; decide, ?_⟩
    rw [upd_upd, putF_new "_atom" (V.str a) [(("_inputs" : Str), V.ref p)] (show ∀ g ∈ (["_inputs"] : List Str), g ≠ "_atom" by decide +kernel), List.cons_append, List.nil_append]
    have xd : dp ≠ x := ne_of hd4 hx4 (fun z => nomatch z)
    have k5 : ∀ o, Kept H (upd H4 x o) := fun o => s4.kept.new hx
    refine ⟨.ref dp, rfl, dp, _, rfl, .inl ⟨SqL.of ((upd_ne xd).trans hd4), fun q0 hq0 => ?_⟩⟩
    have q0x : x ≠ q0 := ne_of_none upd_same hq0
    refine ⟨.ref x, rfl, x, C_Type, dx, _, rfl, (upd_ne q0x).trans upd_same, T.k_Type, T.x_Type.n_places, by show 2 < 1000; decide, ?_⟩
    rw [putF_new "_places" (V.ref q0) [(("_inputs" : Str), V.ref p), ("_atom", V.str a)] (show ∀ g ∈ (["_inputs", "_atom"] : List Str), g ≠ "_places" by decide +kernel), List.cons_append, List.cons_append, List.nil_append]
    refine ⟨_, rfl, .ref x, rfl, x, C_Type, dx, _, rfl, upd_same, T.k_Type, T.x_Type.n_order, by show 3 < 1000; decide, ?_⟩
    rw [upd_upd, putF_new "_order" (.int (((Ty.mk l a).order : Nat) : Int)) [(("_inputs" : Str), V.ref p), ("_atom", V.str a), ("_places", V.ref q0)] (show ∀ g ∈ (["_inputs", "_atom", "_places"] : List Str), g ≠ "_order" by decide +kernel), List.cons_append, List.cons_append, List.cons_append, List.nil_append]
    generalize hH6 : upd (upd (upd H4 x _) q0 _) x _ = H6
    have hx6 : H6 x = some (.ins C_Type dx [("_inputs", .ref p), ("_atom", .str a), ("_places", .ref q0), ("_order", .int (((Ty.mk l a).order : Nat) : Int))]) := by rw [← hH6, upd_same]
    have hq6 : H6 q0 = some (.tup ((Ty.mk l a).places.map V.str)) := by rw [← hH6, upd_ne (Ne.symm q0x), upd_same]
    have k6 : Kept H H6 := by
      rw [← hH6]
      exact Kept.new (fun b o hb n => by rw [upd_ne (ne_of_none (k5 _ b o hb n) hq0)]; exact k5 _ b o hb n) hx
    have o6 : ∀ b o, b ≠ x → H b = some o → H6 b = some o := fun b o bx hb => by
      have h5 : ∀ u, upd H4 x u b = some o := fun u => by
        rw [upd_ne bx]
        exact s4 b o hb
      rw [← hH6, upd_ne bx, upd_ne (ne_of_none (h5 _) hq0)]
      exact h5 _
    clear hH6
    have hp6 := k6 _ _ hp (fun _ _ z => nomatch z)
    refine ⟨⟨_, rfl⟩, .ref p, rfl, p, rfl, ⟨rs, SqT.of hp6⟩, fun D hD => ?_⟩
    refine lc_tup (xs := rs) (fun i H' => H' D = some (.lst (((l.take i).map Ty.inside).map V.str)) ∧ Same H6 H') ?_ (fun i H' _ hP => SqT.of (hP.2 _ _ hp6)) (fun i y H' hy hP => ?_) (fun H' hP => ?_)
    · exact ⟨by rw [upd_same, List.take_zero]; rfl, (Same.refl H6).mut hD⟩
    · obtain ⟨hD1, s1⟩ := hP
      obtain ⟨t, et, ht⟩ := hl.get hy
      have ft := fit.ins (List.mem_of_getElem? et)
      have io := lt_of_get hy
      rw [hrl] at io
      have f2 := ft.few
      refine ⟨rfl, tyes ?_⟩
      refine ⟨y, rfl, y, t, rfl, IsT.kept (k6.same s1) t y ht, Nat.le_trans (Ty.text_small ft.words ft.few) (by decide), Nat.le_trans t.ins_len (by omega), _, hD1, lt_line' ?_, ?_, s1.mut hD⟩
      · rw [List.length_map, List.length_map, List.length_take]
        omega
      · rw [upd_same, take_next et, List.map_append, List.map_append]
        rfl
    · obtain ⟨hD1, s1⟩ := hP
      rw [hrl, List.take_length, ← Ty.insideL_map] at hD1
      have ln : (Ty.insideL l).length = l.length := by rw [Ty.insideL_map, List.length_map]
      refine ⟨.str a, rfl, by show 1 ≤ sizeLine; decide, fun d1 h1 => ?_⟩
      refine ⟨D, d1, _, [.str a], rfl, rfl, by rw [upd_ne (ne_of_none hD1 h1)]; exact hD1, upd_same, lt_line (by rw [List.length_map, ln]; show _ + 1 ≤ _; omega), fun d2 h2 => ?_⟩
      have s9 := (s1.new (o := .lst [.str a]) h1).new (o := .lst ((Ty.insideL l).map V.str ++ [.str a])) h2
      refine ⟨" -> ", d2, Ty.insideL l ++ [a], rfl, rfl, .inl (SqL.of ?_), ?_, ?_⟩
      · rw [upd_same, List.map_append]
        rfl
      · have i1 := Ty.insideL_len l (fun b hb => (isW_len (fw b (by rw [pl]; exact List.mem_append_left _ hb)).1).2)
        have sep : (" -> " : Str).length = 4 := by decide +kernel
        rw [List.map_append, List.sum_append, List.length_append, sep, ln]
        show _ + [a.length].sum + (l.length + 1) * 4 ≤ 16777216
        rw [show [a.length].sum = a.length from Nat.add_zero _]
        omega
      · refine ⟨.ref x, rfl, x, C_Type, dx, _, rfl, s9 _ _ hx6, T.k_Type, T.x_Type.n_text, by show 4 < 1000; decide, ?_⟩
        rw [putF_new "_text" (.str (Txt.join " -> " (Ty.insideL l ++ [a]))) [(("_inputs" : Str), V.ref p), ("_atom", V.str a), ("_places", V.ref q0), ("_order", .int (((Ty.mk l a).order : Nat) : Int))] (show ∀ g ∈ (["_inputs", "_atom", "_places", "_order"] : List Str), g ≠ "_text" by decide +kernel)]
        refine q q0 _ (fun b o bx hb => ?_) ?_ ?_
        · rw [upd_ne bx]
          exact s9 b o (o6 b o bx hb)
        · rw [upd_same, Ty.text]
          rfl
        · rw [upd_ne (Ne.symm q0x)]
          exact s9 _ _ hq6
end


end My
namespace My
open PySem PySem.Spec PyProof.Rows L2 TL
set_option pp.maxSteps 3000
set_option pp.deepTerms false
/-! ### two promises of one def -/
theorem _root_.L2.FnOk.or {P : Program} {w : World} {K : PySem.W.Frag} {mg : Str → Option Value} {base : Heap} {CX : CXT} {k : Nat} {f : Addr} {fd : FuncData} {ps : List Str} {sp1 sp2 : Sp} (F1 : FnOk P w K mg base CX k f fd ps sp1) (F2 : FnOk P w K mg base CX k f fd ps sp2) :
    FnOk P w K mg base CX k f fd ps (fun vs H Q E => sp1 vs H Q E ∨ sp2 vs H Q E) :=
  ⟨fun vs H Q E h => h.elim (F1.len vs H Q E) (F2.len vs H Q E), fun A outer s H args us vs Q E hr he hb hv h => h.elim (F1.run A outer s H args us vs Q E hr he hb hv) (F2.run A outer s H args us vs Q E hr he hb hv)⟩
/-! ### what is no tuple of types -/
/-- an item: a type, or something else -/
def EltT (K : PySem.W.Frag) (C : Addr) (H : Hp) (x : V) (b : Bool) : Prop := (b = true ∧ ∃ t, IsT C H t x) ∨ (b = false ∧ ∃ ty, (∀ H', Same H H' → TyX K H' x ty) ∧ PySem.W.kitOne K ty (.ref C) = some false)
def EltsT (K : PySem.W.Frag) (C : Addr) (H : Hp) : List V → List Bool → Prop
  | [], bs => bs = []
  | x :: r, bs => ∃ b c, bs = b :: c ∧ EltT K C H x b ∧ EltsT K C H r c
theorem EltsT.len {K : PySem.W.Frag} {C : Addr} {H : Hp} : ∀ {rs : List V} {bs : List Bool}, EltsT K C H rs bs → bs.length = rs.length
  | [], bs, h => by rw [show bs = [] from h]; rfl
  | _ :: _, _, ⟨_, _, e, _, r⟩ => by rw [e, List.length_cons, List.length_cons, EltsT.len r]
theorem EltsT.get {K : PySem.W.Frag} {C : Addr} {H : Hp} : ∀ {rs : List V} {bs : List Bool} {i : Nat} {x : V}, EltsT K C H rs bs → rs[i]? = some x → ∃ b, bs[i]? = some b ∧ EltT K C H x b
  | [], _, _, _, _, h => by cases h
  | _ :: _, _, 0, _, ⟨b, _, e, k, _⟩, h => by cases h; exact ⟨b, by rw [e]; rfl, k⟩
  | _ :: _, _, i + 1, _, ⟨_, _, e, _, r⟩, h => by
    obtain ⟨b, h1, h2⟩ := EltsT.get (i := i) r h
    exact ⟨b, by rw [e]; exact h1, h2⟩
/-- no tuple of types -/
def NoTys (K : PySem.W.Frag) (C : Addr) (H : Hp) (v : V) : Prop := (∃ t0, (∀ H', Same H H' → TyX K H' v t0) ∧ PySem.W.kitOne K t0 (.type "tuple") = some false) ∨ ∃ p rs bs, v = .ref p ∧ H p = some (.tup rs) ∧ rs.length ≤ 40 ∧ EltsT K C H rs bs ∧ bs.all id = false
def sp_noTys (K : PySem.W.Frag) (C : Addr) : Sp := fun vs H Q _ => ∃ v, vs = [v] ∧ NoTys K C H v ∧ ∀ H', Same H H' → Q (.bl false) H'
def sp_Type_initO (K : PySem.W.Frag) (C CE CW : Addr) : Sp := fun vs H Q E => ∃ x dx v u, vs = [.ref x, v, u] ∧ H x = some (.ins C dx []) ∧
  ((NoTys K C H v ∧ ∀ H', Same H H' → E (.ref CE) none H') ∨ (∃ p rs l, v = .ref p ∧ H p = some (.tup rs) ∧ IsTs C H l rs ∧ l.length ≤ 40 ∧ (∀ H', Same H H' → ValW K H' u) ∧ isW u = false ∧ ∀ H', Same H H' → E (.ref CW) none H'))
section
variable {P : Program} {w : World} {K : PySem.W.Frag} {mg : Str → Option Value} {base : Heap} {C_Type C_InvalidType C_InvalidWord : Addr}
theorem ok_noTys (T : Txt K mg C_Type) {f : Addr} {fd : FuncData} (F : Fun K "_is_tuple_of_types" "_is_tuple_of_types" s__is_tuple_of_types f fd) : FnOk P w K mg base CX0 1 f fd ["value"] (sp_noTys K C_Type) := by
  have nd := sc__is_tuple_of_types.nd
  refine F.ok sc__is_tuple_of_types (fun vs H Q E h => ?_) (fun cdv A outer s H vs Q E hr h => ?_)
  · obtain ⟨v, rfl, _⟩ := h
    rfl
  · obtain ⟨v, rfl, no, q⟩ := h
    refine ⟨_, (pss_one (ps_ret (pe_and (pe_callB call_isi (by rfl) T.b_isinstance (by decide +kernel) (pa_cons (pv 0) (pa_cons (pe_bltn (v := .ty "tuple") (u := .type "tuple") (by rfl) T.b_tuple (by decide +kernel) rfl) pa_nil))) (pe_one (pe_callB (cr_all rfl) (by rfl) T.b_all (by decide +kernel) (pa_cons (pe_lcD (own := [("one", 1)]) (by rfl) nd (pi_tup (pv 0)) (blkOk_by (own := [("one", 1)]) (N := ["value", "one"]) (sc := (defScope s__is_tuple_of_types)) (by decide +kernel)) (fun _ _ _ _ _ => pg_name (i := 1) nd rfl (Or.inl rfl)) (fun _ _ _ _ _ => pts_nil) (fun _ _ _ _ _ => (pe_callB call_isi (by rfl) T.b_isinstance (by decide +kernel) (pa_cons (pv 1) (pa_cons (pe_glob (v := .ref C_Type) rfl T.c_Type rfl) pa_nil))))) pa_nil)))))), ?_⟩
    rcases no with ⟨t0, ht, kt⟩ | ⟨p, rs, bs, rfl, hp, hn, hl, no⟩
    · exact ⟨v, rfl, v, .ty "tuple", t0, .type "tuple", false, rfl, .ty _, ht H (Same.refl H), kt, false, rfl, iteF (q H (Same.refl H))⟩
    refine ⟨.ref p, rfl, .ref p, .ty "tuple", .type "tuple", .type "tuple", true, rfl, .ty _, .base (.tup hp), kit_ty (by decide +kernel), true, rfl, iteT ?_⟩
    have lb := hl.len
    refine ⟨.ref p, rfl, p, rfl, ⟨rs, SqT.of hp⟩, fun D hD => lc_tup (xs := rs) (fun i H' => H' D = some (.lst ((bs.take i).map V.bl)) ∧ Same H H') ?_ (fun i H1 _ hP => SqT.of (hP.2 _ _ hp)) (fun i x H1 hx hP => ?_) (fun H1 hP => ?_)⟩
    · exact ⟨by rw [upd_same, List.take_zero]; rfl, (Same.refl H).mut hD⟩
    · obtain ⟨hD1, s1⟩ := hP
      obtain ⟨b, eb, hb⟩ := hl.get hx
      have io := lt_of_get hx
      refine ⟨rfl, tyes ?_⟩
      have step : ∃ acc, H1 D = some (.lst acc) ∧ acc.length < sizeLine ∧ (upd H1 D (.lst (acc ++ [V.bl b]))) D = some (.lst ((bs.take (i + 1)).map V.bl)) ∧ Same H (upd H1 D (.lst (acc ++ [V.bl b]))) := by
        refine ⟨_, hD1, lt_line' (by rw [List.length_map, List.length_take]; omega), ?_, s1.mut hD⟩
        rw [upd_same, take_next eb, List.map_append]
        rfl
      rcases hb with ⟨rfl, t, ht⟩ | ⟨rfl, ty, ht, kt⟩
      · obtain ⟨a, dx, p', q', rs', rfl, ha, _⟩ := (IsT.same s1 t x ht).at
        exact ⟨.ref a, rfl, .ref a, .ref C_Type, .ref C_Type, .ref C_Type, true, rfl, .own _, ty_of_ins T.k_Type T.x_Type ha, kit_self _, step⟩
      · exact ⟨x, rfl, x, .ref C_Type, ty, .ref C_Type, false, rfl, .own _, ht H1 s1, kt, step⟩
    · obtain ⟨hD1, s1⟩ := hP
      rw [← lb, List.take_length] at hD1
      refine ⟨D, _, rfl, SqL.of hD1, ?_⟩
      rw [no]
      exact q _ s1
end


end My
namespace My
open PySem PySem.Spec PyProof.Rows L2 TL
set_option pp.maxSteps 3000
set_option pp.deepTerms false
/-! ### Type refused -/
section
variable {P : Program} {w : World} {K : PySem.W.Frag} {mg : Str → Option Value} {base : Heap} {C_Type C_InvalidType C_InvalidWord : Addr}
theorem ok_Type_initO (T : Txt K mg C_Type) (e_InvalidType : ErrT K mg "InvalidType" C_InvalidType) (e_InvalidWord : ErrT K mg "InvalidWord" C_InvalidWord) (c__is_tuple_of_types : CalN P w K mg base "_is_tuple_of_types" 1 ["value"] (fun vs H Q E => sp__is_tuple_of_types K C_Type vs H Q E ∨ sp_noTys K C_Type vs H Q E)) (c_is_word : CalN P w K mg base "is_word" 1 ["value"] (sp_is_word K)) (p_Type_order : PrpC P w K mg base C_Type "order" 1 ["self"] (getSp C_Type "_order")) (c__text_inside : CalN P w K mg base "_text_inside" 3 ["wanted"] (sp__text_inside K C_Type)) {f : Addr} {fd : FuncData} (F : Fun K "__init__" "Type.__init__" s_Type___init__ f fd) : FnOk P w K mg base (L2.CX P w) 4 f fd ["self", "inputs", "atom"] (sp_Type_initO K C_Type C_InvalidType C_InvalidWord) := by
  have nd := sc_Type___init__.nd
  refine F.okX sc_Type___init__ (fun vs H Q E h => ?_) (fun cdv A outer s H vs Q E hr h => ?_)
  · obtain ⟨x, dx, v, u, rfl, _⟩ := h
    rfl
  · obtain ⟨x, dx, v, u, rfl, hx, alt⟩ := h
    refine ⟨_, (pss_cons (ps_if (pt_not (pt_val (pe_callN c__is_tuple_of_types (hr.mono (by first | decide | omega)) rfl (pa_cons (pv 1) pa_nil)))) (pss_one (ps_raise rfl (takes_of rfl rfl rfl rfl) (pmk_own PySem.F.excBase_ValueError e_InvalidType.exc e_InvalidType.g e_InvalidType.k (raises_own e_InvalidType.b e_InvalidType.t) rfl))) pss_nil)
      (pss_cons (ps_if (pt_not (pt_val (pe_callN c_is_word (hr.mono (by first | decide | omega)) rfl (pa_cons (pv 2) pa_nil)))) (pss_one (ps_raise rfl (takes_of rfl rfl rfl rfl) (pmk_own PySem.F.excBase_ValueError e_InvalidWord.exc e_InvalidWord.g e_InvalidWord.k (raises_own e_InvalidWord.b e_InvalidWord.t) rfl))) pss_nil)
      (pss_cons (ps_set (i := 3) nd rfl (.inl rfl) (pe_op op_cat (pe_lc2D (own := [("one", 5), ("word", 6)]) (vs1 := [6]) (by rfl) nd (pi_tup (pv 1)) (blkOk_by (own := [("one", 5), ("word", 6)]) (N := ["self", "inputs", "atom", "places", "order", "one", "word"]) (sc := (defScope s_Type___init__)) (by decide +kernel)) (by decide) (fun _ _ _ _ _ => pg_name (i := 5) nd rfl (Or.inl rfl)) (fun _ _ _ _ _ => pts_nil) (fun _ _ _ _ _ => (pi_tup (pe_fld (pv 5) rfl))) (fun _ _ _ _ _ => pg_name (i := 6) nd rfl (Or.inl rfl)) (fun _ _ _ _ _ => pts_nil) (fun _ _ _ _ _ => (pv 6))) (pe_lst (pa_cons (pv 2) pa_nil))))
      (pss_cons (ps_set (i := 4) nd rfl (.inl rfl) (pe_maxD rfl (by rfl) T.b_max (pe_lcD (own := [("one", 5)]) (by rfl) nd (pi_tup (pv 1)) (blkOk_by (own := [("one", 5)]) (N := ["self", "inputs", "atom", "places", "order", "one", "word"]) (sc := (defScope s_Type___init__)) (by decide +kernel)) (fun _ _ _ _ _ => pg_name (i := 5) nd rfl (Or.inl rfl)) (fun _ _ _ _ _ => pts_nil) (fun _ _ _ _ _ => (pe_op op_add (pe_propC p_Type_order T.k_Type (hr.mono (by first | decide | omega)) (pv 5)) pe_int))) pe_int))
      (pss_cons (ps_if (PW.pt (pw_or (pt_cmpR op_gt (pe_callB call_len (by rfl) T.b_len (by decide +kernel) (pa_cons (pv 3) pa_nil)) (pe_globE rfl T.g_MAX_PLACES) (nomark _)) (pw_or1 (pt_cmpR op_gt (pv 4) (pe_globE rfl T.g_MAX_ORDER) (nomark _))))) (pss_one (ps_raise rfl (takes_of rfl rfl rfl rfl) (pmk_own PySem.F.excBase_ValueError e_InvalidType.exc e_InvalidType.g e_InvalidType.k (raises_own e_InvalidType.b e_InvalidType.t) rfl))) pss_nil)
      (pss_cons (ps_fld (pv 0) (pv 1) rfl)
      (pss_cons (ps_fld (pv 0) (pv 2) rfl)
      (pss_cons (ps_fld (pv 0) (pe_callTy call_tuple_of (by rfl) T.b_tuple (by decide +kernel) (pa_cons (pv 3) pa_nil)) rfl)
      (pss_cons (ps_fld (pv 0) (pv 4) rfl)
      (pss_one (ps_fld (pv 0) (pe_join (pe_globE rfl T.g__ARROW) (pe_op op_cat (pe_lcD (own := [("one", 5)]) (by rfl) nd (pi_tup (pv 1)) (blkOk_by (own := [("one", 5)]) (N := ["self", "inputs", "atom", "places", "order", "one", "word"]) (sc := (defScope s_Type___init__)) (by decide +kernel)) (fun _ _ _ _ _ => pg_name (i := 5) nd rfl (Or.inl rfl)) (fun _ _ _ _ _ => pts_nil) (fun _ _ _ _ _ => (pe_callN c__text_inside (hr.mono (by first | decide | omega)) rfl (pa_cons (pv 5) pa_nil)))) (pe_lst (pa_cons (pv 2) pa_nil)))) rfl))))))))))), ?_⟩
    rcases alt with ⟨no, qE⟩ | ⟨p, rs, l, rfl, hp, hl, hn, hu, wu, qW⟩
    · exact ⟨v, rfl, .inr ⟨v, rfl, no, fun H1 s1 => ⟨false, rfl, iteT (qE H1 s1)⟩⟩⟩
    · refine ⟨.ref p, rfl, .inl ⟨p, rs, l, rfl, hp, hl, by omega, fun H1 s1 => ⟨true, rfl, iteF (nx_go ?_)⟩⟩⟩
      dsimp only
      exact ⟨u, rfl, u, rfl, hu H1 s1, fun H2 s2 => ⟨false, congrArg V.bl wu, iteT (qW H2 (s1.trans s2))⟩⟩
end


end My
namespace My
open PySem PySem.Spec PyProof.Rows L2 TL
set_option pp.maxSteps 3000
set_option pp.deepTerms false
/-! ### >> that may be too large -/
structure MakX (P : Program) (w : World) (K : PySem.W.Frag) (mg : Str → Option Value) (base : Heap) (C : Addr) (k : Nat) (ps : List Str) (sp : Sp) : Prop where
  ex : ∃ f fd, FnOk P w K mg base (L2.CX P w) k f fd ps sp ∧ Mk K C f ∧ Binds K fd ps []
section
variable {X : Cx} {x : Str} {k : Nat} {ps : List Str} {sp : Sp} {e : Expr} {es : List Expr} {t : TA} {p pos : Pos} {C : Addr} {E : XK}
/-- what leaves the making leaves the def -/
theorem pe_makeX (c : MakX X.prog X.w X.K X.mg X.base C k ps sp) (room : Room (k + 1) X.A) (hg : Gl X x) (hm : X.mg x = some (.ref C)) (pass : Passes (L2.CX X.prog X.w) X E) (ha : PA X (e :: es) t) (hdb : (x == ("__debug__" : Str)) = false := by decide)
    (he : starEach (e :: es) X.env = (false, eval e X.env) :: starEach es X.env := by rfl) (hpl : (backTo pos (starEach es X.env)).any (·.1) = false := by rfl) :
    PE X (.Call (.Name x p) (e :: es) [] pos) (tMake C sp [] E t) := by
  obtain ⟨f, fd, ok, M, hb⟩ := c.ex
  exact pe_make M ok room hg hm hb .nil pass ha hdb he hpl
end

/-! ### methods and operators that may raise -/
structure MetX (P : Program) (w : World) (K : PySem.W.Frag) (mg : Str → Option Value) (base : Heap) (C : Addr) (m : Str) (k : Nat) (ps : List Str) (sp : Sp) : Prop where
  ex : ∃ f fd, FnOk P w K mg base (L2.CX P w) k f fd ps sp ∧ Meth K C m f ∧ Binds K fd ps []
section
variable {X : Cx} {m : Str} {k : Nat} {ps : List Str} {sp : Sp} {e o : Expr} {es : List Expr} {ta : TE} {t : TA} {pos apos : Pos} {C : Addr} {E : XK}
theorem pe_methX {pl : Sem Bool} (c : MetX X.prog X.w X.K X.mg X.base C m k ps sp) (cls : Cls X.K C) (room : Room k X.A) (pass : Passes (L2.CX X.prog X.w) X E) (ho : PE X o ta) (ha : PA X (e :: es) t)
    (hst : starEach (e :: es) X.env = (false, eval e X.env) :: starEach es X.env := by rfl) (hpl : (backTo pos (starEach es X.env)).any (·.1) = false := by rfl)
    (ht : eval (.Call (.Attribute o m apos) (e :: es) [] pos) X.env = (do
      let ov ← eval o X.env
      standAt apos.atName
      let (f, first) ← holding [ov] (getMethod ov m pl)
      callWith pos f first (backTo pos (starEach (e :: es) X.env)) (backToKw pos (keywordEach [] X.env))) := by rfl) :
    PE X (.Call (.Attribute o m apos) (e :: es) [] pos) (tMeth C m sp [] E ta t) := by
  obtain ⟨f, fd, ok, M, binds⟩ := c.ex
  exact pe_meth ho cls M ok room binds .nil pass ha hst hpl ht
theorem op_ownX {op : Operator} (c : MetX X.prog X.w X.K X.mg X.base C m k ps sp) (room : Room k X.A) (first : PySem.W.selfFirst X.K C = true) (pass : Passes (L2.CX X.prog X.w) X E) (name : PySem.dunder op.info.2 = m := by rfl) : OpR X (binaryOp op) (rOwn C sp E) := by
  obtain ⟨f, fd, ok, M, binds⟩ := c.ex
  exact op_own (Runs.of ok room binds pass) first (name ▸ M.at_) M.fn
theorem op_or {g : Value → Value → Sem Value} {r1 r2 : R2} (a : OpR X g r1) (b : OpR X g r2) : OpR X g (fun x y H Q => r1 x y H Q ∨ r2 x y H Q) := by
  intro pins s σ H x y v u Q I rx ry h
  rcases h with h | h
  · exact a pins s σ H x y v u Q I rx ry h
  · exact b pins s σ H x y v u Q I rx ry h
end

/-! ### what takes no such value: >>, % -/
def sp_Type_rshO (K : PySem.W.Frag) (C CO : Addr) : Sp := fun vs H _ E => ∃ v u, vs = [v, u] ∧ (∃ t, IsT C H t v) ∧ (∃ ty, TyX K H u ty ∧ PySem.W.kitOne K ty (.ref C) = some false) ∧ E (.ref CO) none H
section
variable {P : Program} {w : World} {K : PySem.W.Frag} {mg : Str → Option Value} {base : Heap} {C_Type C_InvalidType C_InvalidWord C_InvalidOperation : Addr}
theorem ok_Type_rshO (T : Txt K mg C_Type) (e_InvalidOperation : ErrT K mg "InvalidOperation" C_InvalidOperation) {i_sp : Sp} (i_Type___init__ : MakX P w K mg base C_Type 4 ["self", "inputs", "atom"] i_sp) (p_Type_inputs : PrpC P w K mg base C_Type "inputs" 1 ["self"] (getSp C_Type "_inputs")) (p_Type_atom : PrpC P w K mg base C_Type "atom" 1 ["self"] (getSp C_Type "_atom")) {f : Addr} {fd : FuncData} (F : Fun K "__rshift__" "Type.__rshift__" s_Type___rshift__ f fd) : FnOk P w K mg base (L2.CX P w) 6 f fd ["self", "other"] (sp_Type_rshO K C_Type C_InvalidOperation) := by
  have nd := sc_Type___rshift__.nd
  refine F.okX sc_Type___rshift__ (fun vs H Q E h => ?_) (fun cdv A outer s H vs Q E hr h => ?_)
  · obtain ⟨v, u, rfl, _⟩ := h
    rfl
  · obtain ⟨v, u, rfl, hv, ⟨ty, hu, ku⟩, q⟩ := h
    refine ⟨_, (pss_cons (ps_if (pt_not (pt_val (pe_callB call_isi (by rfl) T.b_isinstance (by decide +kernel) (pa_cons (pv 1) (pa_cons (pe_glob (v := .ref C_Type) rfl T.c_Type rfl) pa_nil))))) (pss_one (ps_raise rfl (takes_of rfl rfl rfl rfl) (pmk_own PySem.F.excBase_ValueError e_InvalidOperation.exc e_InvalidOperation.g e_InvalidOperation.k (raises_own e_InvalidOperation.b e_InvalidOperation.t) rfl))) pss_nil)
      (pss_one (ps_ret (pe_makeX i_Type___init__ (hr.mono (by first | decide | omega)) rfl T.c_Type (passes_call (takes_of rfl rfl rfl rfl) fun _ _ _ _ h => h) (pa_cons (pe_op op_catA (pe_tup (pa_cons (pv 0) pa_nil)) (pe_propC p_Type_inputs T.k_Type (hr.mono (by first | decide | omega)) (pv 1))) (pa_cons (pe_propC p_Type_atom T.k_Type (hr.mono (by first | decide | omega)) (pv 1)) pa_nil)))))), ?_⟩
    exact ⟨u, rfl, u, .ref C_Type, ty, .ref C_Type, false, rfl, .own _, hu, ku, false, rfl, iteT q⟩
end


end My
namespace My
open PySem PySem.Spec PyProof.Rows L2 TL
set_option pp.maxSteps 3000
set_option pp.deepTerms false
/-! ### >> that may be too large -/
theorem make_tyX {K : PySem.W.Frag} {C CE : Addr} {H1 : Hp} {p : Addr} {rs : List V} {l : List Ty} {a : Str} {Q : VK} {E : XK} (hp : H1 p = some (.tup rs)) (hl : IsTs C H1 l rs) (parts : Parts l a)
    (q : (Ty.mk l a).Fits → ∀ x H', Same H1 H' → IsT C H' (.mk l a) (.ref x) → Q (.ref x) H') (qE : ¬ (Ty.mk l a).Fits → ∀ H', Same H1 H' → E (.ref CE) none H') :
    ∀ x dx, H1 x = none → H1 dx = none → dx ≠ x → sp_Type_initX K C CE (.ref x :: ([.ref p, .str a] ++ [])) (upd (upd H1 dx (.own x)) x (.ins C dx [])) (fun v H2 => v = .non ∧ Q (.ref x) H2) E := by
  intro x dx hx hdx ne
  have s : Same H1 (upd (upd H1 dx (.own x)) x (.ins C dx [])) := ((Same.refl H1).new hdx).new (by rw [upd_ne (Ne.symm ne)]; exact hx)
  refine ⟨x, dx, p, rs, l, a, rfl, upd_same, s _ _ hp, IsTs.same s l rs hl, parts, fun fit q' H' k e1 e2 => ?_, fun no H' k => qE no H' (s.trans k)⟩
  have s' : Same H1 H' := fun b o hb => k b o (ne_of_none hb hx) (s b o hb)
  refine ⟨rfl, q fit x H' s' ?_⟩
  rw [IsT]
  exact ⟨x, dx, p, q', rs, rfl, e1, s' _ _ hp, IsTs.same s' l rs hl, e2⟩
/-- the wider type is made, or InvalidType is raised -/
def sp_Type_rshX (K : PySem.W.Frag) (C CE : Addr) : Sp := fun vs H Q E => ∃ v u t o, vs = [v, u] ∧ IsT C H t v ∧ IsT C H o u ∧ t.Fits ∧ o.Fits ∧ ((Ty.mk (t :: o.ins) o.atom).Fits → Made C H Q (.mk (t :: o.ins) o.atom)) ∧
  (¬ (Ty.mk (t :: o.ins) o.atom).Fits → ∀ H', Same H H' → E (.ref CE) none H')
section
variable {P : Program} {w : World} {K : PySem.W.Frag} {mg : Str → Option Value} {base : Heap} {C_Type C_InvalidType : Addr}
theorem ok_Type_rshX (T : Txt K mg C_Type) (i_Type___init__ : MakX P w K mg base C_Type 4 ["self", "inputs", "atom"] (sp_Type_initX K C_Type C_InvalidType)) (p_Type_inputs : PrpC P w K mg base C_Type "inputs" 1 ["self"] (getSp C_Type "_inputs")) (p_Type_atom : PrpC P w K mg base C_Type "atom" 1 ["self"] (getSp C_Type "_atom")) {f : Addr} {fd : FuncData} (F : Fun K "__rshift__" "Type.__rshift__" s_Type___rshift__ f fd) : FnOk P w K mg base (L2.CX P w) 6 f fd ["self", "other"] (sp_Type_rshX K C_Type C_InvalidType) := by
  have nd := sc_Type___rshift__.nd
  refine F.okX sc_Type___rshift__ (fun vs H Q E h => ?_) (fun cdv A outer s H vs Q E hr h => ?_)
  · obtain ⟨v, u, t, o, rfl, _⟩ := h
    rfl
  · obtain ⟨v, u, t, o, rfl, ht, ho, ft, fo, q, qE⟩ := h
    refine ⟨_, (pss_cons (ps_if (pt_not (pt_val (pe_callB call_isi (by rfl) T.b_isinstance (by decide +kernel) (pa_cons (pv 1) (pa_cons (pe_glob (v := .ref C_Type) rfl T.c_Type rfl) pa_nil))))) (pss_one ps_never) pss_nil)
      (pss_one (ps_ret (pe_makeX i_Type___init__ (hr.mono (by first | decide | omega)) rfl T.c_Type (passes_call (takes_of rfl rfl rfl rfl) fun _ _ _ _ h => h) (pa_cons (pe_op op_catA (pe_tup (pa_cons (pv 0) pa_nil)) (pe_propC p_Type_inputs T.k_Type (hr.mono (by first | decide | omega)) (pv 1))) (pa_cons (pe_propC p_Type_atom T.k_Type (hr.mono (by first | decide | omega)) (pv 1)) pa_nil)))))), ?_⟩
    obtain ⟨bo, dxo, po, qo, rso, rfl, hbo, hpo, hlo, _⟩ := ho.at
    have lo : o.ins.length ≤ 14 := Fits_ins_len fo
    have fo' : (Ty.mk o.ins o.atom).Fits := by rw [Ty.mk_eta]; exact fo
    have parts : Parts (t :: o.ins) o.atom := ⟨fun u hu => by
      rcases List.mem_cons.mp hu with rfl | hu
      · exact ft
      · exact fo'.ins hu, by rw [List.length_cons]; omega, fo'.words _ (by rw [Ty.places]; exact List.mem_append_right _ (List.mem_singleton.mpr rfl))⟩
    have lr := hlo.len
    refine ⟨.ref bo, rfl, .ref bo, .ref C_Type, .ref C_Type, .ref C_Type, true, rfl, .own _, ty_of_ins T.k_Type T.x_Type hbo, kit_self _, true, rfl, iteF ?_⟩
    refine nx_go ?_
    dsimp only
    refine ⟨v, rfl, by show 1 ≤ sizeLine; decide, fun p0 hp0 => ?_⟩
    have s0 : Same H (upd H p0 (.tup [v])) := (Same.refl H).new hp0
    refine ⟨.ref bo, rfl, bo, dxo, _, rfl, s0 _ _ hbo, bo, dxo, _, .ref po, rfl, s0 _ _ hbo, rfl, p0, po, [v], rso, rfl, rfl, SqT.of upd_same, SqT.of (s0 _ _ hpo), lt_line (by rw [lr]; show 1 + _ ≤ _; omega), (fun e => nomatch e), fun _ e => ?_, fun _ _ p1 hp1 => ?_⟩
    · refine ⟨.ref bo, rfl, bo, dxo, _, rfl, s0 _ _ hbo, bo, dxo, _, .str o.atom, rfl, s0 _ _ hbo, rfl, ?_⟩
      have hl : IsTs C_Type (upd H p0 (.tup [v])) (t :: o.ins) [v] := by
        rw [e] at hlo
        exact .cons (IsT.same s0 t v ht) (IsTs.same s0 _ _ hlo)
      exact make_tyX upd_same hl parts (fun fit x H' s h => q fit x H' (s0.trans s) h) (fun no H' s => qE no H' (s0.trans s))
    · have s1 := s0.new (o := .tup ([v] ++ rso)) hp1
      refine ⟨.ref bo, rfl, bo, dxo, _, rfl, s1 _ _ hbo, bo, dxo, _, .str o.atom, rfl, s1 _ _ hbo, rfl, ?_⟩
      exact make_tyX upd_same (.cons (IsT.same s1 t v ht) (IsTs.same s1 _ _ hlo)) parts (fun fit x H' s h => q fit x H' (s1.trans s) h) (fun no H' s => qE no H' (s1.trans s))
end


end My
namespace My
open PySem PySem.Spec PyProof.Rows L2 TL
/-! ### try: .. except (A, B): .. -/
theorem fly_keep {B h h2 : Heap} {l : List Env} {a : Addr} {Z : Obj → Prop} (x : HandSPX.FlyingZ B l a Z h) (k : ∀ b o, h.get? b = some o → h2.get? b = some o) : HandSPX.FlyingZ B l a Z h2 := by
  obtain ⟨x1, x2, x3, oe, vs, T, oT, ts, he, hz, hd, h1, hn, hT, hT2, hT3, h3⟩ := x
  have ff : ∀ {l : List Env}, h.FunFrames B l → h2.FunFrames B l := by
    intro l
    induction l with
    | nil => exact fun _ => trivial
    | cons p l ih => exact fun ⟨y1, ⟨L, o, y2, y3, y4, y5⟩, y6⟩ => ⟨y1, ⟨L, o, y2, y3, k _ _ y4, y5⟩, ih y6⟩
  exact ⟨fun b o e => k _ _ (x1 b o e), x2, ff x3, oe, vs, T, oT, ts, k _ _ he, hz, hd, h1, hn, hT, k _ _ hT2, hT3, h3⟩
theorem up_keep {h h2 : Heap} (k : ∀ b o, h.get? b = some o → h2.get? b = some o) : h.UpToSlots h2 := fun b o e _ => ⟨o.slots, k b o e⟩
/-- what the clause wishes of an exception of the body -/
def wPair (K : PySem.W.Frag) (c1 c2 : Value) (ts : Addr → Value → Option Addr → TS) (Wout : WX) (D : Ends) : WX := fun cls d σ H =>
  ∃ b, PySem.W.exmAny K cls [c1, c2] = some b ∧ (b = true → ∀ a, H a = none → ts a cls d D σ H) ∧ (b = false → Wout cls d σ H)
section
variable {X : Cx} {body suite : List Stmt} {b₀ : Stmt} {x1 x2 : Str} {c1 c2 : Value} {p1 p2 ppos pos' pos : Pos} {tb : WX → TS} {ts : Addr → Value → Option Addr → TS} {Wout : WX}
theorem ps_try_pair {px} (hs : X.stack = X.env :: X.outer) (hf : X.env.frame = some X.env.locals) (tk : L2N.Takes X Wout)
    (hb : ∀ (W : WX) (pn : List (Addr × Obj)) (xe : Value → Shared → Prop), L2N.Takes (X.tr pn xe) W → PassesOwn (model X.prog X.w) X.A X.env xe → PSs (X.tr pn xe) body (tb W))
    (g1 : Gl X x1) (m1 : X.mg x1 = some c1) (g2 : Gl X x2) (m2 : X.mg x2 = some c2)
    (hsu : ∀ (a : Addr) (oe : Obj) (cls : Value) (d : Option Addr) (pn : List (Addr × Obj)), L2N.Zn cls d oe → (∃ vs, oe.data = .fields vs) → PSs (X.suite a ((a, oe) :: pn)) (b₀ :: suite) (ts a cls d))
    (h1 : (x1 == ("__debug__" : Str)) = false := by decide) (h2 : (x2 == ("__debug__" : Str)) = false := by decide) :
    PS X (.Try body [.ExceptHandler (some (.Tuple [.Name x1 p1, .Name x2 p2] px ppos)) none (b₀ :: suite) pos'] [] [] pos) (fun D σ H => tb (wPair X.K c1 c2 ts Wout D) D σ H) := by
  refine ⟨fun pins s σ H D I h => ?_⟩
  have ok := I.ok
  have hfr : X.A.frames = some (X.env :: X.outer) := by rw [ok.frames, hs]
  refine wpAny_Try_except ?_
  refine wpAny_mono ((hb (wPair X.K c1 c2 ts Wout D) (X.pn ++ pins) (fun e s₁ => wpAny (model X.prog X.w) X.A (noteFrame e X.env) (fun _ s₂ => wpAny (model X.prog X.w) X.A (setFlight e none) (fun _ s₃ =>
    wpAny (model X.prog X.w) X.A (handleBy e X.env [.ExceptHandler (some (.Tuple [.Name x1 p1, .Name x2 p2] px ppos)) none (b₀ :: suite) pos']) (SP X pins D) X.xe s₃) X.xe s₂) X.xe s₁) (fun u s' xx => ?_) PassesOwn.looking).run [] s σ H D (I.toTry _) h) (fun f s1 hsp => ?_) (fun e s1 he => he)
  · obtain ⟨a, B, sI, pins', σ', H', cls, d, rfl, J', nb, up, sky, na, os, ag, w⟩ := xx
    have J : Inv X pins σ' H' sI := J'.ofTry ok
    have sky' : L2.Sky B (X.env :: X.outer) a (L2N.Zn cls d) X.env.locals s'.heap := by rw [← hs]; exact sky
    show wpAny (model X.prog X.w) X.A (noteFrame (.ref a) X.env) _ _ _
    refine L2N.Sky.land L2N.Zn.steady hfr hf sky' fun h3 fl3 up3 => ?_
    have J3 : Inv X pins σ' H' { s' with heap := h3 } := J.landed nb fl3.1 (up.trans up3) os ag
    obtain ⟨oe3, vs3, he3, hz3, hd3⟩ := fl3.there
    have nfr : a ∉ frs (X.env :: X.outer) := fun hm => by
      obtain ⟨_, o', e', hnf⟩ := fl3.2.2.1.mem hm
      rw [he3] at e'; cases e'
      exact hnf _ hd3
    have nL : a ≠ X.env.locals := fun z => nfr (List.mem_filterMap.mpr ⟨X.env, List.mem_cons_self, by rw [hf, z]⟩)
    have nF : a ∉ X.fs := fun hm => by
      obtain ⟨e, he, q⟩ := List.mem_filterMap.mp hm
      exact nfr (List.mem_filterMap.mpr ⟨e, List.mem_cons_of_mem _ he, q⟩)
    have S3 := J3.suite he3 hd3 na nL nF
    obtain ⟨b, hb1, hyes, hno⟩ := w
    refine wpAny_handleBy_cons (codeAny_handlers_test ?_) (by intro q; cases q)
    -- the classes, as a new tuple
    refine wpAny_Tuple_spliced (Calls.spliced_cons (ld_glob (X := X.suite a ((a, oe3) :: (X.pn ++ pins))) S3 g1 m1 (Calls.spliced_cons (ld_glob (X := X.suite a ((a, oe3) :: (X.pn ++ pins))) S3 g2 m2 (Calls.spliced_nil ⟨lt_line (by show 2 ≤ 1000000; decide), ?_⟩) h2)) h1))
    generalize htp : h3.objs.size = tp
    have k : ∀ b o, h3.get? b = some o → (h3.push { cls := .type "tuple", data := .seq [c1, c2].toArray }).get? b = some o := fun b o e => Heap.get?_push_of_some _ e
    have ht : (h3.push { cls := .type "tuple", data := .seq [c1, c2].toArray }).get? tp = some { cls := .type "tuple", data := .seq [c1, c2].toArray } := by rw [← htp]; exact Heap.get?_push_size _ rfl
    generalize h3.push { cls := .type "tuple", data := .seq [c1, c2].toArray } = h4 at k ht ⊢
    have fl4 := fly_keep fl3 k
    have up4 := (up.trans up3).trans (up_keep k)
    have J4 : Inv X pins σ' H' { s' with heap := h4 } := J.landed nb fl4.1 up4 os ag
    have LT : PySem.W.Looks (model X.prog X.w) h4 (typeOf (.ref a)) cls := fun A Q E s k2 q => wpAny_typeOf_ref (k2 _ _ (k _ _ he3)) (by rw [hz3.1]; exact q)
    have LM := PySem.W.exm_tup2 (M := model X.prog X.w) J4.kIn LT ht hb1
    refine LM.here ?_
    cases b with
    | true =>
      refine codeAny_handlers_suite ?_
      refine HandSPX.lands_againZ fl4 fun h5 fl5 up5 => ?_
      have J5 : Inv X pins σ' H' { s' with heap := h5 } := J.landed nb fl5.1 (up4.trans up5) os ag
      obtain ⟨oe5, vs5, he5, hz5, hd5⟩ := fl5.there
      have S5 := J5.suite he5 hd5 na nL nF
      refine wpAny_mono ((hsu a oe5 cls d (X.pn ++ pins) hz5 ⟨_, hd5⟩).run [] _ _ H' _ S5 (hyes rfl a na)) (fun f s6 hsp => ?_) (fun _ _ z => False.elim z)
      cases f with
      | next => obtain ⟨σ6, H6, S6, q6⟩ := hsp; exact ⟨_, _, S6.unsuite ok, q6⟩
      | brk => obtain ⟨σ6, H6, S6, q6⟩ := hsp; exact ⟨_, _, S6.unsuite ok, q6⟩
      | cont => obtain ⟨σ6, H6, S6, q6⟩ := hsp; exact ⟨_, _, S6.unsuite ok, q6⟩
      | ret u => obtain ⟨v6, σ6, H6, S6, r6, q6⟩ := hsp; exact ⟨_, _, _, S6.unsuite ok, r6, q6⟩
    | false =>
      refine wpAny_handleBy_nil ?_
      obtain ⟨k1, k2, k3, oe, vs, T, oT, ts', he, hz, hd, h1, hr⟩ := id fl4
      unfold PySem.passOn
      refine wpAny_bind (wpAny_field he hd h1 ?_)
      rw [if_neg (show ¬ ((Value.ref T == Value.none) = true) from by simp)]
      have fin : wpAny (model X.prog X.w) X.A (setFlight (.ref a) X.env.frame) (fun _ s4 => wpAny (model X.prog X.w) X.A (throw (.ref a) : Sem Flow) (SP X pins D) X.xe s4) X.xe { s' with heap := h4 } := by
        rw [hf]
        refine HandSPX.setFlight_upZ fl4 fun h5 hh5 up5 => wpAny_throw (tk _ _ ?_)
        exact ⟨a, B, sI, pins, σ', H', cls, d, rfl, J, nb, up4.trans up5, .inr (.inr (by rw [hs]; exact hh5)), na, os, ag, hno rfl⟩
      first
        | exact wpAny_bind (wpAny_pure (wpAny_bind fin))
        | exact wpAny_bind fin
  · cases f with
    | next => obtain ⟨σ', H', J', q⟩ := hsp; exact wpAny_execs_nil ⟨σ', H', J'.ofTry ok, q⟩
    | brk => obtain ⟨σ', H', J', q⟩ := hsp; exact ⟨σ', H', J'.ofTry ok, q⟩
    | cont => obtain ⟨σ', H', J', q⟩ := hsp; exact ⟨σ', H', J'.ofTry ok, q⟩
    | ret u => obtain ⟨v, σ', H', J', r, q⟩ := hsp; exact ⟨v, σ', H', J'.ofTry ok, r, q⟩
end

section
variable {X : Cx} {body suite : List Stmt} {b₀ : Stmt} {x1 x2 : Str} {c1 c2 : Value} {p1 p2 ppos pos' pos : Pos} {tb : WX → TS} {ts : Addr → Value → Option Addr → TS} {Wout : WX}
/-- .. whose suite may raise -/
theorem ps_try_pairX {px} (hs : X.stack = X.env :: X.outer) (hf : X.env.frame = some X.env.locals) (hpa : ∀ hd : Option Value, PassesOwnAt (model X.prog X.w) (X.A.mark hd) X.A X.env X.xe) (tk : L2.Takes X Wout)
    (hb : ∀ (W : WX) (pn : List (Addr × Obj)) (xe : Value → Shared → Prop), L2N.Takes (X.tr pn xe) W → PassesOwn (model X.prog X.w) X.A X.env xe → PSs (X.tr pn xe) body (tb W))
    (g1 : Gl X x1) (m1 : X.mg x1 = some c1) (g2 : Gl X x2) (m2 : X.mg x2 = some c2)
    (hsu : ∀ (a : Addr) (oe : Obj) (cls : Value) (d : Option Addr) (pn : List (Addr × Obj)), L2N.Zn cls d oe → (∃ vs, oe.data = .fields vs) → L2.Takes (L2H.suiteX X a ((a, oe) :: pn)) Wout → L2H.HotC (L2H.suiteX X a ((a, oe) :: pn)) → PSs (L2H.suiteX X a ((a, oe) :: pn)) (b₀ :: suite) (ts a cls d))
    (h1 : (x1 == ("__debug__" : Str)) = false := by decide) (h2 : (x2 == ("__debug__" : Str)) = false := by decide) :
    PS X (.Try body [.ExceptHandler (some (.Tuple [.Name x1 p1, .Name x2 p2] px ppos)) none (b₀ :: suite) pos'] [] [] pos) (fun D σ H => tb (wPair X.K c1 c2 ts Wout D) D σ H) := by
  refine ⟨fun pins s σ H D I h => ?_⟩
  have ok := I.ok
  have hfr : X.A.frames = some (X.env :: X.outer) := by rw [ok.frames, hs]
  refine wpAny_Try_except ?_
  refine wpAny_mono ((hb (wPair X.K c1 c2 ts Wout D) (X.pn ++ pins) (fun e s₁ => wpAny (model X.prog X.w) X.A (noteFrame e X.env) (fun _ s₂ => wpAny (model X.prog X.w) X.A (setFlight e none) (fun _ s₃ =>
    wpAny (model X.prog X.w) X.A (handleBy e X.env [.ExceptHandler (some (.Tuple [.Name x1 p1, .Name x2 p2] px ppos)) none (b₀ :: suite) pos']) (SP X pins D) X.xe s₃) X.xe s₂) X.xe s₁) (fun u s' xx => ?_) PassesOwn.looking).run [] s σ H D (I.toTry _) h) (fun f s1 hsp => ?_) (fun e s1 he => he)
  · obtain ⟨a, B, sI, pins', σ', H', cls, d, rfl, J', nb, up, sky, na, os, ag, w⟩ := xx
    have J : Inv X pins σ' H' sI := J'.ofTry ok
    have sky' : L2.Sky B (X.env :: X.outer) a (L2N.Zn cls d) X.env.locals s'.heap := by rw [← hs]; exact sky
    show wpAny (model X.prog X.w) X.A (noteFrame (.ref a) X.env) _ _ _
    refine L2N.Sky.land L2N.Zn.steady hfr hf sky' fun h3 fl3 up3 => ?_
    have J3 : Inv X pins σ' H' { s' with heap := h3 } := J.landed nb fl3.1 (up.trans up3) os ag
    obtain ⟨oe3, vs3, he3, hz3, hd3⟩ := fl3.there
    have nfr : a ∉ frs (X.env :: X.outer) := fun hm => by
      obtain ⟨_, o', e', hnf⟩ := fl3.2.2.1.mem hm
      rw [he3] at e'; cases e'
      exact hnf _ hd3
    have nL : a ≠ X.env.locals := fun z => nfr (List.mem_filterMap.mpr ⟨X.env, List.mem_cons_self, by rw [hf, z]⟩)
    have nF : a ∉ X.fs := fun hm => by
      obtain ⟨e, he, q⟩ := List.mem_filterMap.mp hm
      exact nfr (List.mem_filterMap.mpr ⟨e, List.mem_cons_of_mem _ he, q⟩)
    have S3 := J3.suite he3 hd3 na nL nF
    obtain ⟨b, hb1, hyes, hno⟩ := w
    refine wpAny_handleBy_cons (codeAny_handlers_test ?_) (by intro q; cases q)
    -- the classes, as a new tuple
    refine wpAny_Tuple_spliced (Calls.spliced_cons (ld_glob (X := X.suite a ((a, oe3) :: (X.pn ++ pins))) S3 g1 m1 (Calls.spliced_cons (ld_glob (X := X.suite a ((a, oe3) :: (X.pn ++ pins))) S3 g2 m2 (Calls.spliced_nil ⟨lt_line (by show 2 ≤ 1000000; decide), ?_⟩) h2)) h1))
    generalize htp : h3.objs.size = tp
    have k : ∀ b o, h3.get? b = some o → (h3.push { cls := .type "tuple", data := .seq [c1, c2].toArray }).get? b = some o := fun b o e => Heap.get?_push_of_some _ e
    have ht : (h3.push { cls := .type "tuple", data := .seq [c1, c2].toArray }).get? tp = some { cls := .type "tuple", data := .seq [c1, c2].toArray } := by rw [← htp]; exact Heap.get?_push_size _ rfl
    generalize h3.push { cls := .type "tuple", data := .seq [c1, c2].toArray } = h4 at k ht ⊢
    have fl4 := fly_keep fl3 k
    have up4 := (up.trans up3).trans (up_keep k)
    have J4 : Inv X pins σ' H' { s' with heap := h4 } := J.landed nb fl4.1 up4 os ag
    have LT : PySem.W.Looks (model X.prog X.w) h4 (typeOf (.ref a)) cls := fun A Q E s k2 q => wpAny_typeOf_ref (k2 _ _ (k _ _ he3)) (by rw [hz3.1]; exact q)
    have LM := PySem.W.exm_tup2 (M := model X.prog X.w) J4.kIn LT ht hb1
    refine LM.here ?_
    cases b with
    | true =>
      refine codeAny_handlers_suite ?_
      refine HandSPX.lands_againZ fl4 fun h5 fl5 up5 => ?_
      have J5 : Inv X pins σ' H' { s' with heap := h5 } := J.landed nb fl5.1 (up4.trans up5) os ag
      obtain ⟨oe5, vs5, he5, hz5, hd5⟩ := fl5.there
      have S5 := J5.suite he5 hd5 na nL nF
      have tkS : L2.Takes (L2H.suiteX X a ((a, oe5) :: (X.pn ++ pins))) Wout := fun u2 s2 x2 => by
        obtain ⟨a2, B2, sI2, pn2, σ2, H2, cls2, d2, e2, I2, nb2, up2, sky2, na2, os2, ag2, w2⟩ := x2
        exact tk u2 s2 ⟨a2, B2, sI2, pins, σ2, H2, cls2, d2, e2, L2H.unsuiteX I2 ok, nb2, up2, sky2, na2, os2, ag2, w2⟩
      have hot : L2H.HotC (L2H.suiteX X a ((a, oe5) :: (X.pn ++ pins))) := ⟨(a, oe5), ⟨rfl, vs5, hd5, hz5.2.2 vs5 hd5⟩, List.mem_cons_self⟩
      refine wpAny_mono ((hsu a oe5 cls d (X.pn ++ pins) hz5 ⟨_, hd5⟩ tkS hot).run [] _ _ H' _ (L2H.suiteX_of S5) (hyes rfl a na)) (fun f s6 hsp => ?_) (fun e6 s6 z => hpa (some (.ref a)) e6 s6 z)
      cases f with
      | next => obtain ⟨σ6, H6, S6, q6⟩ := hsp; exact ⟨_, _, L2H.unsuiteX S6 ok, q6⟩
      | brk => obtain ⟨σ6, H6, S6, q6⟩ := hsp; exact ⟨_, _, L2H.unsuiteX S6 ok, q6⟩
      | cont => obtain ⟨σ6, H6, S6, q6⟩ := hsp; exact ⟨_, _, L2H.unsuiteX S6 ok, q6⟩
      | ret u => obtain ⟨v6, σ6, H6, S6, r6, q6⟩ := hsp; exact ⟨_, _, _, L2H.unsuiteX S6 ok, r6, q6⟩
    | false =>
      refine wpAny_handleBy_nil ?_
      have fl6 := L2H.flyingZ_imp (fun o (z : L2N.Zn cls d o) => z.zc) fl4
      obtain ⟨k1, k2, k3, oe, vs, T, oT, ts', he, hz, hd, h1, hr⟩ := id fl6
      unfold PySem.passOn
      refine wpAny_bind (wpAny_field he hd h1 ?_)
      rw [if_neg (show ¬ ((Value.ref T == Value.none) = true) from by simp)]
      have fin : wpAny (model X.prog X.w) X.A (setFlight (.ref a) X.env.frame) (fun _ s4 => wpAny (model X.prog X.w) X.A (throw (.ref a) : Sem Flow) (SP X pins D) X.xe s4) X.xe { s' with heap := h4 } := by
        rw [hf]
        refine HandSPX.setFlight_upZ fl6 fun h5 hh5 up5 => wpAny_throw (tk _ _ ?_)
        exact ⟨a, B, sI, pins, σ', H', cls, d, rfl, J, nb, up4.trans up5, .inr (.inr (by rw [hs]; exact hh5)), na, os, ag, hno rfl⟩
      first
        | exact wpAny_bind (wpAny_pure (wpAny_bind fin))
        | exact wpAny_bind fin
  · cases f with
    | next => obtain ⟨σ', H', J', q⟩ := hsp; exact wpAny_execs_nil ⟨σ', H', J'.ofTry ok, q⟩
    | brk => obtain ⟨σ', H', J', q⟩ := hsp; exact ⟨σ', H', J'.ofTry ok, q⟩
    | cont => obtain ⟨σ', H', J', q⟩ := hsp; exact ⟨σ', H', J'.ofTry ok, q⟩
    | ret u => obtain ⟨v, σ', H', J', r, q⟩ := hsp; exact ⟨v, σ', H', J'.ofTry ok, r, q⟩
end


end My
namespace My
open PySem PySem.Spec PyProof.Rows L2 TL
/-! ### an own error with a field of its own, made of None, in any context -/
/-- {x!r} of None -/
def tFmtNone (te : TE) : TE := fun σ H Q => te σ H fun x H1 => x = .non ∧ Q (.str "None") H1
theorem pe_fmtNone {X : Cx} {e : Expr} {te : TE} {pos : Pos} (he : PE X e te) : PE X (.FormattedValue e 114 none pos) (tFmtNone te) := by
  refine ⟨fun pins s σ H Q I h => ?_⟩
  refine wpAny_FormattedValue_repr (thn (he.run pins s σ H _ I h) fun v s1 hv => ?_)
  obtain ⟨x, H1, I1, r1, rfl, q⟩ := hv
  obtain rfl : v = Value.none := r1
  have fin : ∀ (h' : Heap) (u : Tok) (tk : Nat), (∀ b o, s1.heap.get? b = some o → h'.get? b = some o) → wpAny (model X.prog X.w) X.A (formatField (.str "None" u) Str.empty) (EP X pins σ Q) X.xe { s1 with heap := h', toks := tk } := fun h' u tk k =>
    wpAny_formatField_str ⟨.str "None", H1, I1.kept (t' := tk) k, ⟨_, rfl⟩, q⟩ ⟨.str "None", H1, (I1.kept (t' := tk) k).tok _, ⟨_, rfl⟩, q⟩ (lt_line (by show 4 ≤ 1000000; decide))
  exact pyReprObj_none (fin _ _ _ fun _ _ z => z)
abbrev veL : List Value := [.type "ValueError", .type "Exception", .type "BaseException", .type "object"]
/-- what the written part says of an own error at C over the own class at CB, both ValueErrors -/
structure ErrP (K : PySem.W.Frag) (mg : Str → Option Value) (x xB : Str) (C CB fI : Addr) (f : Str) : Prop where
  o : OexB K C "ValueError.__init__"
  ei : PySem.W.excInitIn K C veL "ValueError.__new__" = true
  fld : PySem.W.findIn K (.ref C) f = some none
  g : mg x = some (.ref C)
  gB : mg xB = some (.ref CB)
  rd : ClX.CRead K CB (.type "type")
  ini : PySem.W.findCls K (.ref CB) (.type "type") "__init__" = some (.val (.builtin "ValueError.__init__"))
  iC : PySem.W.findIn K (.ref C) "__init__" = some (some (.ref fI))
  tI : PySem.W.typeIn K (.ref fI) = some (.type "function")
theorem refs_tail : ∀ l : List Value, PySem.W.excTail veL l = true → PySem.HandSPX.refsVE l = true := by
  intro l
  induction l with
  | nil => intro e; cases (beq_iff_eq.mp e)
  | cons a r ih =>
    intro e
    rcases PySem.W.excTail_cases (a :: r) e with ⟨c, r', q, h⟩ | q
    · obtain ⟨rfl, rfl⟩ := List.cons.inj q
      exact ih h
    · rw [q]
      rfl
theorem ErrP.oc {K : PySem.W.Frag} {mg : Str → Option Value} {x xB f : Str} {C CB fI : Addr} (h : ErrP K mg x xB C CB fI f) : OexC K C := by
  refine ⟨?_, h.o.sa, h.o.exC, h.o.tyC, h.o.kC⟩
  have q := h.ei
  obtain ⟨cd0, hcd0, hdd⟩ := PySem.W.any_some h.o.hd
  unfold PySem.W.excInitIn at q
  split at q
  · rename_i dd cd sl ho
    have hc : PySem.W.clsIn K C = some cd := by
      unfold PySem.W.clsIn
      rw [ho]
    rw [hc] at hcd0
    rw [← Option.some.inj hcd0] at hdd
    split at q
    · rename_i C' bm k0 k1 k2 k3 n k5 hm hs
      simp only [Bool.and_eq_true, beq_iff_eq, Bool.not_eq_true'] at q
      obtain ⟨⟨⟨rfl, rfl⟩, hdel⟩, ht⟩ := q
      obtain ⟨nm, bs, mro, ns, qn, hd, sn, sub, ab, col, del⟩ := cd
      dsimp only at hm hdel hdd
      subst hm hdel
      have hdd : hd = true := hdd
      subst hdd
      have hsl : sl = #[k0, k1, k2, k3, some (.builtin "ValueError.__new__"), k5] := by
        obtain ⟨l⟩ := sl
        simp only at hs
        rw [hs]
      subst hsl
      exact ⟨nm, qn, ns, bs, bm, sn, sub, ab, col, dd, k0, k1, k2, k3, k5, ho, refs_tail bm ht⟩
    · cases q
  · cases q
/-- None is kept as it is -/
def sp_keptN : Sp := fun vs H Q _ => vs = [.non] ∧ Q .non H
/-- the error is made, None in its field -/
def sp_errN (C : Addr) (f : Str) : Sp := fun vs H Q _ => ∃ a, vs = [.ref a, .non] ∧ H a = some (exo a C none) ∧ ∀ d H', (∀ b o, b ≠ a → H b = some o → H' b = some o) → H' a = some (exo a C (some d)) → H' d = some (exd d [(f, .non)]) → H d = none → d ≠ a → Q .non H'
section
variable {P : Program} {w : World} {K : PySem.W.Frag} {mg : Str → Option Value} {base : Heap}
theorem _root_.L2.Fun.okH {CX : CXT} {x qual : Str} {st : Stmt} {f : Addr} {fd : FuncData} {N ps : List Str} {k : Nat} {sp : Sp} (F : Fun K x qual st f fd) (S : FnScope N ps (defScope st)) (len : ∀ vs H Q E, sp vs H Q E → vs.length = ps.length)
    (hbody : ∀ (cdv : Value) (A : Around) (outer : List Env) (s : Shared) (H : Hp) (vs : List V) (Q : VK) (E : XK) (p : Addr × Obj), L2H.Hot1 A p → L2H.RoomH k (A.deeper (envOfC qual (defScope st) s.heap.objs.size f cdv)) → sp vs H Q E →
      ∃ t, PSs (L2H.cxH CX P w K mg base N qual (defScope st) f cdv A outer s H E p) (defBody st) t ∧ t { nx := fun _ H' => Q .non H', rt := Q } (start N vs) H) : L2H.FnH P w K mg base CX (k + 1) f fd ps sp := by
  obtain ⟨oc, od, kV, doc, pm, an, cdv, ct, osl, rfl, lk, hcd⟩ := F.ex
  exact L2H.fn_ofH lk hcd S len fun A outer s H vs Q E p hp hr hsp => hbody cdv A outer s H vs Q E p hp hr hsp
end
section
variable {P : Program} {w : World} {K : PySem.W.Frag} {mg : Str → Option Value} {base : Heap} {X : Cx} {x : Str} {C CB fI : Addr} {f xB : Str} {k : Nat} {fd : FuncData} {ps : List Str} {e : Expr} {es : List Expr} {ta : TA} {p pos cpos rpos : Pos} {j : Nat}
/-- raise x(None): the error leaves the def -/
theorem ps_raiseN {W : WX} (T : ErrP X.K X.mg x xB C CB fI f) (F1 : FnOk X.prog X.w X.K X.mg X.base CX0 k fI fd ps (sp_errN C f)) (hr : Room (k + 1) X.A) (hb : Binds X.K fd ps []) (hc : X.calm = true) (tk : L2.Takes X W) (hg : Gl X x) (ha : PA X (e :: es) ta)
    (hdb : (x == ("__debug__" : Str)) = false := by decide) (he : starEach (e :: es) X.env = (false, eval e X.env) :: starEach es X.env := by rfl) (hpl : (backTo pos (starEach es X.env)).any (·.1) = false := by rfl) :
    PS X (.Raise (some (.Call (.Name x p) (e :: es) [] pos)) none rpos) (fun _ σ H => tMkO C (sp_errN C f) [] ta σ H fun cls d H' => W cls d σ H') :=
  ps_raise hc tk (pmk_oex T.oc T.iC T.tI F1 hr hb .nil pass0 hg T.g ha hdb he hpl)
/-- raise x(None) from None, in an except suite -/
theorem ps_raiseHN {W : WX} (T : ErrP X.K X.mg x xB C CB fI f) (F1 : L2H.FnH X.prog X.w X.K X.mg X.base CX0 k fI fd ps (sp_errN C f)) (hr : L2H.RoomH (k + 1) X.A) (hb : Binds X.K fd ps []) (hc : L2H.HotC X) (tk : L2.Takes X W) (hg : Gl X x) (ha : PA X (e :: es) ta)
    (hdb : (x == ("__debug__" : Str)) = false := by decide) (he : starEach (e :: es) X.env = (false, eval e X.env) :: starEach es X.env := by rfl) (hpl : (backTo pos (starEach es X.env)).any (·.1) = false := by rfl) :
    PS X (.Raise (some (.Call (.Name x p) (e :: es) [] pos)) (some (.Constant .none j cpos)) rpos) (fun _ σ H => tMkO C (sp_errN C f) [] ta σ H fun cls d H' => W cls d σ H') :=
  L2H.ps_raiseHN hc tk (L2H.pmk5_oexH T.oc T.iC T.tI F1 hr hc hb pass0 hg T.g ha hdb he hpl)
end


end My
namespace My
open PySem PySem.Spec PyProof.Rows L2 TL
set_option pp.maxSteps 3000
set_option pp.deepTerms false
/-! ### ParseError(None): its own __init__, cold and hot -/
section
variable {P : Program} {w : World} {K : PySem.W.Frag} {mg : Str → Option Value} {base : Heap} {C_Type CP CB fI : Addr}
theorem ok_keptN (T : Txt K mg C_Type) {f : Addr} {fd : FuncData} (F : Fun K "_kept" "_kept" s__kept f fd) : FnOk P w K mg base CX0 1 f fd ["value"] sp_keptN := by
  have nd := sc__kept.nd
  refine F.ok sc__kept (fun vs H Q E h => ?_) (fun cdv A outer s H vs Q E hr h => ?_)
  · obtain ⟨rfl, _⟩ := h
    rfl
  · obtain ⟨rfl, q⟩ := h
    refine ⟨_, (pss_cons (ps_if (pt_val (pe_callB call_isi (by rfl) T.b_isinstance (by decide +kernel) (pa_cons (pv 0) (pa_cons (pe_bltn (v := .ty "list") (u := .type "list") (by rfl) T.b_list (by decide +kernel) rfl) pa_nil)))) (pss_one ps_never) pss_nil)
      (pss_cons (ps_if (pt_val (pe_callB call_isi (by rfl) T.b_isinstance (by decide +kernel) (pa_cons (pv 0) (pa_cons (pe_bltn (v := .ty "tuple") (u := .type "tuple") (by rfl) T.b_tuple (by decide +kernel) rfl) pa_nil)))) (pss_one ps_never) pss_nil)
      (pss_cons (ps_if (pt_val (pe_callB call_isi (by rfl) T.b_isinstance (by decide +kernel) (pa_cons (pv 0) (pa_cons (pe_bltn (v := .ty "dict") (u := .type "dict") (by rfl) T.b_dict (by decide +kernel) rfl) pa_nil)))) (pss_one ps_never) pss_nil)
      (pss_one (ps_ret (pv 0)))))), ?_⟩
    refine ⟨.non, rfl, .non, .ty "list", .type "NoneType", .type "list", false, rfl, .ty _, .base .non, kit_ty (by decide +kernel), false, rfl, iteF (nx_go ?_)⟩
    dsimp only
    refine ⟨.non, rfl, .non, .ty "tuple", .type "NoneType", .type "tuple", false, rfl, .ty _, .base .non, kit_ty (by decide +kernel), false, rfl, iteF (nx_go ?_)⟩
    dsimp only
    refine ⟨.non, rfl, .non, .ty "dict", .type "NoneType", .type "dict", false, rfl, .ty _, .base .non, kit_ty (by decide +kernel), false, rfl, iteF (nx_go ?_)⟩
    dsimp only
    exact ⟨.non, rfl, q⟩
theorem ok_keptH (T : Txt K mg C_Type) {f : Addr} {fd : FuncData} (F : Fun K "_kept" "_kept" s__kept f fd) : L2H.FnH P w K mg base CX0 1 f fd ["value"] sp_keptN := by
  have nd := sc__kept.nd
  refine F.okH sc__kept (fun vs H Q E h => ?_) (fun cdv A outer s H vs Q E p hp hr h => ?_)
  · obtain ⟨rfl, _⟩ := h
    rfl
  · obtain ⟨rfl, q⟩ := h
    refine ⟨_, (pss_cons (ps_if (pt_val (pe_callB call_isi (by rfl) T.b_isinstance (by decide +kernel) (pa_cons (pv 0) (pa_cons (pe_bltn (v := .ty "list") (u := .type "list") (by rfl) T.b_list (by decide +kernel) rfl) pa_nil)))) (pss_one ps_never) pss_nil)
      (pss_cons (ps_if (pt_val (pe_callB call_isi (by rfl) T.b_isinstance (by decide +kernel) (pa_cons (pv 0) (pa_cons (pe_bltn (v := .ty "tuple") (u := .type "tuple") (by rfl) T.b_tuple (by decide +kernel) rfl) pa_nil)))) (pss_one ps_never) pss_nil)
      (pss_cons (ps_if (pt_val (pe_callB call_isi (by rfl) T.b_isinstance (by decide +kernel) (pa_cons (pv 0) (pa_cons (pe_bltn (v := .ty "dict") (u := .type "dict") (by rfl) T.b_dict (by decide +kernel) rfl) pa_nil)))) (pss_one ps_never) pss_nil)
      (pss_one (ps_ret (pv 0)))))), ?_⟩
    refine ⟨.non, rfl, .non, .ty "list", .type "NoneType", .type "list", false, rfl, .ty _, .base .non, kit_ty (by decide +kernel), false, rfl, iteF (nx_go ?_)⟩
    dsimp only
    refine ⟨.non, rfl, .non, .ty "tuple", .type "NoneType", .type "tuple", false, rfl, .ty _, .base .non, kit_ty (by decide +kernel), false, rfl, iteF (nx_go ?_)⟩
    dsimp only
    refine ⟨.non, rfl, .non, .ty "dict", .type "NoneType", .type "dict", false, rfl, .ty _, .base .non, kit_ty (by decide +kernel), false, rfl, iteF (nx_go ?_)⟩
    dsimp only
    exact ⟨.non, rfl, q⟩
theorem errN_end {H : Hp} {a dx : Addr} {f : Str} {Q : VK} (ha : H a = some (exo a CP none)) (hdx : H dx = none) (ne : dx ≠ a)
    (q : ∀ d H', (∀ b o, b ≠ a → H b = some o → H' b = some o) → H' a = some (exo a CP (some d)) → H' d = some (exd d [(f, .non)]) → H d = none → d ≠ a → Q .non H') : Q .non (upd (upd H dx (exd dx [(f, .non)])) a (exo a CP (some dx))) :=
  q dx _ (fun b o nb e => by rw [upd_ne nb, upd_ne (ne_of_none e hdx)]; exact e) upd_same (by rw [upd_ne ne, upd_same]) hdx ne
theorem ok_parseN (T : Txt K mg C_Type) (e : ErrP K mg "ParseError" "BuildError" CP CB fI "line") (c__kept : CalN P w K mg base "_kept" 1 ["value"] sp_keptN) {f : Addr} {fd : FuncData} (F : Fun K "__init__" "ParseError.__init__" s_ParseError___init__ f fd) : FnOk P w K mg base CX0 2 f fd ["self", "line"] (sp_errN CP "line") := by
  have nd := sc_ParseError___init__.nd
  refine F.ok sc_ParseError___init__ (fun vs H Q E h => ?_) (fun cdv A outer s H vs Q E hr h => ?_)
  · obtain ⟨a, rfl, _⟩ := h
    rfl
  · obtain ⟨a, rfl, ha, q⟩ := h
    refine ⟨_, (pss_cons (ps_expr (pe_exIC (pe_glob (v := .ref CB) rfl e.gB rfl) e.rd e.ini (by decide +kernel) (pa_cons (pv 0) (pa_cons (pe_joined (PJ.cons pe_str (PJ.cons (pe_fmtNone (pv 1)) PJ.nil))) pa_nil))))
      (pss_one (ps_osb (pv 0) (pe_callN c__kept (hr.mono (by first | decide | omega)) rfl (pa_cons (pv 1) pa_nil))))), ?_⟩
    refine ⟨.ref a, rfl, _, rfl, by decide +kernel, .non, rfl, rfl, _, rfl, by decide +kernel, a, CP, [.str _], rfl, (by show 1 ≤ 1000; decide), e.o, ha, ?_⟩
    exact ⟨.non, rfl, rfl, .ref a, rfl, a, CP, _, rfl, e.o, e.fld, ha, fun dx hdx ne => errN_end ha hdx ne q⟩
theorem ok_parseH (T : Txt K mg C_Type) (e : ErrP K mg "ParseError" "BuildError" CP CB fI "line") {fk : Addr} {fdk : FuncData} (hk : L2H.FnH P w K mg base CX0 1 fk fdk ["value"] sp_keptN) (mk : mg "_kept" = some (.ref fk)) (kk : PySem.W.keepIn K (.ref fk) = true) (bk : Binds K fdk ["value"] []) {f : Addr} {fd : FuncData} (F : Fun K "__init__" "ParseError.__init__" s_ParseError___init__ f fd) : L2H.FnH P w K mg base CX0 2 f fd ["self", "line"] (sp_errN CP "line") := by
  have nd := sc_ParseError___init__.nd
  refine F.okH sc_ParseError___init__ (fun vs H Q E h => ?_) (fun cdv A outer s H vs Q E p hp hr h => ?_)
  · obtain ⟨a, rfl, _⟩ := h
    rfl
  · obtain ⟨a, rfl, ha, q⟩ := h
    refine ⟨_, (pss_cons (ps_expr (pe_exIC (pe_glob (v := .ref CB) rfl e.gB rfl) e.rd e.ini (by decide +kernel) (pa_cons (pv 0) (pa_cons (pe_joined (PJ.cons pe_str (PJ.cons (pe_fmtNone (pv 1)) PJ.nil))) pa_nil))))
      (pss_one (ps_osb (pv 0) (L2H.pe_callH (E := fun _ => E0) hk (hr.mono (by first | decide | omega)) ⟨p, hp, List.mem_cons_self⟩ rfl mk kk bk (fun _ _ _ _ _ _ _ h => h.elim) (pa_cons (pv 1) pa_nil))))), ?_⟩
    refine ⟨.ref a, rfl, _, rfl, by decide +kernel, .non, rfl, rfl, _, rfl, by decide +kernel, a, CP, [.str _], rfl, (by show 1 ≤ 1000; decide), e.o, ha, ?_⟩
    exact ⟨.non, rfl, rfl, .ref a, rfl, a, CP, _, rfl, e.o, e.fld, ha, fun dx hdx ne => errN_end ha hdx ne q⟩
end


end My
namespace My
open PySem PySem.Spec PyProof.Rows L2 TL
set_option pp.maxSteps 3000
set_option pp.deepTerms false
/-! ### a text read, or refused -/
theorem make_tyN {K : PySem.W.Frag} {C CE CW : Addr} {H1 : Hp} {p : Addr} {rs : List V} {l : List Ty} {a : Str} {Q : VK} {E : XK} (hp : H1 p = some (.tup rs)) (hl : IsTs C H1 l rs) (parts : (∀ t ∈ l, t.Fits) ∧ l.length ≤ 40 ∧ a.length ≤ 1000 ∧ ∀ c ∈ a.cps.toList, c < 128)
    (q : (Ty.mk l a).Fits → ∀ x H', Same H1 H' → IsT C H' (.mk l a) (.ref x) → Q (.ref x) H') (qE : isW (.str a) = true → ¬ (Ty.mk l a).Fits → ∀ H', Same H1 H' → E (.ref CE) none H') (qW : isW (.str a) = false → ∀ H', Same H1 H' → E (.ref CW) none H') :
    ∀ x dx, H1 x = none → H1 dx = none → dx ≠ x → sp_Type_initN K C CE CW (.ref x :: ([.ref p, .str a] ++ [])) (upd (upd H1 dx (.own x)) x (.ins C dx [])) (fun v H2 => v = .non ∧ Q (.ref x) H2) E := by
  intro x dx hx hdx ne
  have s : Same H1 (upd (upd H1 dx (.own x)) x (.ins C dx [])) := ((Same.refl H1).new hdx).new (by rw [upd_ne (Ne.symm ne)]; exact hx)
  refine ⟨x, dx, p, rs, l, a, rfl, upd_same, s _ _ hp, IsTs.same s l rs hl, parts, fun fit q' H' k e1 e2 => ?_, fun w no H' k => qE w no H' (s.trans k), fun w H' k => qW w H' (s.trans k)⟩
  have s' : Same H1 H' := fun b o hb => k b o (ne_of_none hb hx) (s b o hb)
  refine ⟨rfl, q fit x H' s' ?_⟩
  rw [IsT]
  exact ⟨x, dx, p, q', rs, rfl, e1, s' _ _ hp, IsTs.same s' l rs hl, e2⟩
/-- the word is an atom's, or InvalidWord is raised -/
def sp_Type_plainN (K : PySem.W.Frag) (C CW : Addr) : Sp := fun vs H Q E => ∃ a, vs = [.ref C, .str a] ∧ Plain 1000 a ∧ ((Ty.mk [] a).Fits → Made C H Q (.mk [] a)) ∧ (isW (.str a) = false → ∀ H', Same H H' → E (.ref CW) none H')
theorem fits_word {a : Str} (p : Plain 1000 a) (w : isW (.str a) = true) : (Ty.mk [] a).Fits := by
  have e : (Ty.mk [] a).places = [a] := by rw [Ty.places, Ty.placesL_nil]; rfl
  have o : (Ty.mk [] a).order = 0 := by rw [Ty.order, Ty.orderL]
  exact ⟨fun b hb => by rw [e] at hb; rw [List.mem_singleton.mp hb]; exact ⟨w, p.2⟩, by rw [e]; exact (by decide : 1 ≤ 15), by rw [o]; exact Nat.zero_le _⟩
theorem word_fits {l : List Ty} {a : Str} (f : (Ty.mk l a).Fits) : isW (.str a) = true := (f.words a (by rw [Ty.places]; exact List.mem_append_right _ (List.mem_singleton.mpr rfl))).1
/-- read as the type, or one of the two errors raised -/
def spr_freelyN (n : Nat) (_ : PySem.W.Frag) (C CE CW : Addr) : Sp := fun vs H Q E => ∃ x, ∃ d : Nat, vs = [.str x, .int d] ∧ d < n ∧ d ≤ 1000 ∧ Plain 150 x ∧ (∀ t, Reads d x t → Made C H Q t) ∧ ((∀ t, ¬ Reads d x t) → ∀ H', Same H H' → E (.ref CE) none H' ∧ E (.ref CW) none H')
def spr_pieceN (n : Nat) (_ : PySem.W.Frag) (C CE CW : Addr) : Sp := fun vs H Q E => ∃ x, ∃ d : Nat, vs = [.str x, .int d] ∧ d < n ∧ d ≤ 1000 ∧ Plain 150 x ∧ (∀ t, ReadsP d x t → Made C H Q t) ∧ ((∀ t, ¬ ReadsP d x t) → ∀ H', Same H H' → E (.ref CE) none H' ∧ E (.ref CW) none H')
section
variable {P : Program} {w : World} {K : PySem.W.Frag} {mg : Str → Option Value} {base : Heap} {C_Type C_InvalidType C_InvalidWord : Addr}
theorem ok_Type_plainN (T : Txt K mg C_Type) (i_Type___init__Y : MakY (L2N.CX P w) P w K mg base C_Type 4 ["self", "inputs", "atom"] (sp_Type_initN K C_Type C_InvalidType C_InvalidWord)) {f : Addr} {fd : FuncData} (F : Fun K "plain" "Type.plain" s_Type_plain f fd) :
    FnOk P w K mg base (L2N.CX P w) 6 f fd ["cls", "atom"] (sp_Type_plainN K C_Type C_InvalidWord) := by
  have nd := sc_Type_plain.nd
  refine F.okCN sc_Type_plain (fun vs H Q E h => ?_) (fun cdv A outer s H vs Q E hr h => ?_)
  · obtain ⟨a, rfl, _⟩ := h
    rfl
  · obtain ⟨a, rfl, pa, q, qW⟩ := h
    refine ⟨_, (pss_one (ps_ret (pe_makeVY i_Type___init__Y (hr.mono (by first | decide | omega)) (L2N.passes_call (L2N.takes_of rfl rfl rfl rfl) fun _ _ _ _ h => h) (pv 0) (pa_cons (pe_tup pa_nil) (pa_cons (pv 1) pa_nil))))), ?_⟩
    refine ⟨_, rfl, rfl, Nat.zero_le _, fun p hp => ?_⟩
    have s0 := (Same.refl H).new (o := .tup []) hp
    refine ⟨_, rfl, make_tyN upd_same IsTs.nil ⟨fun t h => (by cases h), by decide, pa.1, pa.2⟩ (fun fit x H' s h => q fit x H' (s0.trans s) h) (fun ww no => absurd (fits_word pa ww) no) (fun ww H' s => qW ww H' (s0.trans s))⟩
end
theorem last_some {xs : List Str} (h : xs ≠ []) : ∃ qs a, xs = qs ++ [a] := ⟨xs.dropLast, xs.getLast h, (List.dropLast_concat_getLast _).symm⟩
section
variable {P : Program} {w : World} {K : PySem.W.Frag} {mg : Str → Option Value} {base : Heap} {C_Type C_InvalidType C_InvalidWord : Addr}
theorem ok_read_bothN (T : Txt K mg C_Type) (i_Type___init__Y : MakY (L2N.CX P w) P w K mg base C_Type 4 ["self", "inputs", "atom"] (sp_Type_initN K C_Type C_InvalidType C_InvalidWord)) (c__pieces : CalN P w K mg base "_pieces" 1 ["text"] (sp__pieces K))
    (k_Type_plainY : CmtY (L2N.CX P w) P w K mg base C_Type "plain" 6 ["cls", "atom"] (sp_Type_plainN K C_Type C_InvalidWord))
    {f f2 : Addr} {fd fd2 : FuncData} (F : Fun K "_read_freely" "_read_freely" s__read_freely f fd) (M : mg "_read_freely" = some (.ref f)) (B : Binds K fd ["text", "depth"] [])
    (F2 : Fun K "_read_piece" "_read_piece" s__read_piece f2 fd2) (M2 : mg "_read_piece" = some (.ref f2)) (B2 : Binds K fd2 ["piece", "depth"] []) :
    ∀ n : Nat, FnOk P w K mg base (L2N.CX P w) (7 + 2 * n) f fd ["text", "depth"] (spr_freelyN n K C_Type C_InvalidType C_InvalidWord) ∧ FnOk P w K mg base (L2N.CX P w) (8 + 2 * n) f2 fd2 ["piece", "depth"] (spr_pieceN (n + 1) K C_Type C_InvalidType C_InvalidWord) := by
  have piece : ∀ n, FnOk P w K mg base (L2N.CX P w) (7 + 2 * n) f fd ["text", "depth"] (spr_freelyN n K C_Type C_InvalidType C_InvalidWord) → FnOk P w K mg base (L2N.CX P w) (8 + 2 * n) f2 fd2 ["piece", "depth"] (spr_pieceN (n + 1) K C_Type C_InvalidType C_InvalidWord) := fun n ih => by
    have c__read_freelyY : CalY (L2N.CX P w) P w K mg base "_read_freely" (7 + 2 * n) ["text", "depth"] (spr_freelyN n K C_Type C_InvalidType C_InvalidWord) := ⟨_, _, ih, M, F.kp, B⟩
    have nd := sc__read_piece.nd
    rw [show 8 + 2 * n = (7 + 2 * n) + 1 by omega]
    refine F2.okCN (k := 7 + 2 * n) sc__read_piece (fun vs H Q E h => ?_) (fun cdv A outer s H vs Q E hr h => ?_)
    · obtain ⟨x, d, rfl, _⟩ := h
      rfl
    · obtain ⟨x, d, rfl, lo, d1, px, q, qE⟩ := h
      have len : x.length ≤ 150 := px.1
      refine ⟨_, (pss_cons (ps_if (PW.pt (pw_and (pt_cmpR op_gt (pv 1) pe_int (nomark _)) (pw_and (pt_val (pe_m1 PySem.F.slot_str_startswith PySem.F.type_str_startswith mt_startswith (pv 0) pe_str)) (pw_and1 (pt_val (pe_m1 PySem.F.slot_str_endswith PySem.F.type_str_endswith mt_endswith (pv 0) pe_str)))))) (pss_one (ps_ret (pe_callY c__read_freelyY (hr.mono (by first | decide | omega)) rfl (L2N.passes_call (L2N.takes_of rfl rfl rfl rfl) fun _ _ _ _ h => h) (pa_cons (pe_slice sl_str (pv 0) (po_some pe_int) (po_some (pe_un un_neg pe_int))) (pa_cons (pe_op op_sub (pv 1) pe_int) pa_nil))))) pss_nil)
      (pss_one (ps_ret (pe_cmethY k_Type_plainY (hr.mono (by first | decide | omega)) (L2N.passes_call (L2N.takes_of rfl rfl rfl rfl) fun _ _ _ _ h => h) (pe_glob (v := .ref C_Type) rfl T.c_Type rfl) (pa_cons (pv 0) pa_nil))))), ?_⟩
      -- behind the look: a word
      have word : (d = 0 ∨ Txt.startswith x "(" = false ∨ Txt.endswith x ")" = false) → sp_Type_plainN K C_Type C_InvalidWord [.ref C_Type, .str x] H Q E := fun hh =>
        ⟨x, rfl, ⟨by omega, px.2⟩, fun fit => q _ (.plain hh fit), fun nw H' s => (qE (fun t r => by
          cases r with
          | @open_ d' _ _ _ sw ew r =>
            rcases hh with h | h | h
            · cases h
            · rw [sw] at h; cases h
            · rw [ew] at h; cases h
          | plain _ fit => rw [word_fits fit] at nw; cases nw) H' s).2⟩
      refine ⟨.int (d : Int), rfl, _, _, rfl, rfl, _, rfl, ite2 (fun c => ?_) (fun c => ?_)⟩
      · have c0 : d ≠ 0 := by
          have := of_decide_eq_true c
          omega
        obtain ⟨d', rfl⟩ := Nat.exists_eq_succ_of_ne_zero c0
        refine ⟨.str x, rfl, ⟨_, rfl⟩, x, "(", rfl, rfl, _, rfl, ite2 (fun c2 => ?_) (fun c2 => ?_)⟩
        · refine ⟨.str x, rfl, ⟨_, rfl⟩, x, ")", rfl, rfl, _, rfl, ite2 (fun c3 => ?_) (fun c3 => ?_)⟩
          · refine ⟨.str x, rfl, 1, rfl, 1, rfl, _, rfl, x, rfl, lt_line (by omega), .int ((d' + 1 : Nat) : Int), rfl, _, _, rfl, rfl, ?_⟩
            refine ⟨inner x, d', congrArg (fun i => [V.str (inner x), V.int i]) (by omega), by omega, by omega, plain_inner px, fun t r => q t (.open_ (by omega) c2 c3 r), fun no => qE fun t r => ?_⟩
            cases r with
            | open_ _ _ _ r => exact no _ r
            | plain h _ =>
              rcases h with h | h | h
              · cases h
              · rw [c2] at h; cases h
              · rw [c3] at h; cases h
          · refine nx_go ?_
            exact ⟨rfl, .str x, rfl, word (.inr (.inr (Bool.eq_false_iff.mpr c3)))⟩
        · refine iteF ?_
          refine nx_go ?_
          exact ⟨rfl, .str x, rfl, word (.inr (.inl (Bool.eq_false_iff.mpr c2)))⟩
      · refine iteF ?_
        refine nx_go ?_
        have c0 : d = 0 := by
          by_cases z : d = 0
          · exact z
          · exact absurd (decide_eq_true (by omega : (0 : Int) < d)) c
        exact ⟨rfl, .str x, rfl, word (.inl c0)⟩
  have freely : ∀ n, FnOk P w K mg base (L2N.CX P w) (8 + 2 * n) f2 fd2 ["piece", "depth"] (spr_pieceN (n + 1) K C_Type C_InvalidType C_InvalidWord) → FnOk P w K mg base (L2N.CX P w) (7 + 2 * (n + 1)) f fd ["text", "depth"] (spr_freelyN (n + 1) K C_Type C_InvalidType C_InvalidWord) := fun n ih => by
    have c__read_pieceY : CalY (L2N.CX P w) P w K mg base "_read_piece" (8 + 2 * n) ["piece", "depth"] (spr_pieceN (n + 1) K C_Type C_InvalidType C_InvalidWord) := ⟨_, _, ih, M2, F2.kp, B2⟩
    have nd := sc__read_freely.nd
    rw [show 7 + 2 * (n + 1) = (8 + 2 * n) + 1 by omega]
    refine F.okCN (k := 8 + 2 * n) sc__read_freely (fun vs H Q E h => ?_) (fun cdv A outer s H vs Q E hr h => ?_)
    · obtain ⟨x, d, rfl, _⟩ := h
      rfl
    · obtain ⟨x, d, rfl, lo, d1, px, q, qE⟩ := h
      refine ⟨_, (pss_cons (ps_set (i := 2) nd rfl (.inl rfl) (pe_callN c__pieces (hr.mono (by first | decide | omega)) rfl (pa_cons (pv 0) pa_nil)))
      (pss_cons (ps_setLcN (i := 3) (own := [("piece", 4)]) (by rfl) nd rfl rfl (sw_true rfl rfl rfl (by decide +kernel)) rfl rfl (L2N.takes_of rfl rfl rfl rfl) (pi_list (pe_slice sl_list (pv 2) po_none (po_some (pe_un un_neg pe_int)))) (blkOk_by (own := [("piece", 4)]) (N := ["text", "depth", "pieces", "inputs", "piece"]) (sc := (defScope s__read_freely)) (by decide +kernel)) (fun _ _ _ _ _ => pg_name (i := 4) nd rfl (Or.inl rfl)) (fun _ _ _ _ _ => pts_nil) (fun _ _ _ _ _ _ hp => (pe_callY c__read_pieceY (hr.mono (by first | decide | omega)) rfl hp (pa_cons (pv 4) (pa_cons (pv 1) pa_nil)))))
      (pss_one (ps_ret (pe_makeY i_Type___init__Y (hr.mono (by first | decide | omega)) rfl T.c_Type (L2N.passes_call (L2N.takes_of rfl rfl rfl rfl) fun _ _ _ _ h => h) (pa_cons (pe_callTy call_tuple_of (by rfl) T.b_tuple (by decide +kernel) (pa_cons (pv 3) pa_nil)) (pa_cons (pe_ix ix_list (pv 2) (pe_un un_neg pe_int) (fun _ _ => rfl)) pa_nil))))))), ?_⟩
      obtain ⟨few, pps⟩ := pieces_few px
      obtain ⟨qs, a, pc⟩ := last_some (pieces_glue x).2
      have few : qs.length ≤ 40 := by
        rw [pc, List.length_append] at few
        have : [a].length = 1 := rfl
        omega
      have pa : Plain 150 a := pps a (by rw [pc]; exact List.mem_append_right _ (List.mem_singleton.mpr rfl))
      have pq : ∀ p ∈ qs, Plain 150 p := fun p hp => pps p (by rw [pc]; exact List.mem_append_left _ hp)
      refine ⟨.str x, rfl, x, rfl, small_plain px (by decide), fun p H1 s1 hp => ?_⟩
      refine asg_go2 ?_
      dsimp only
      rw [pc, List.map_append] at hp
      refine cut_set (fun v H' => ∃ D rs' l, v = .ref D ∧ H' D = some (.lst rs') ∧ IsTs C_Type H' l rs' ∧ ReadsL d qs l ∧ (∀ t ∈ l, t.Fits) ∧ Same H1 H') (fun Q' q' => ?_) ?_
      · refine ⟨.ref p, rfl, 1, rfl, _, rfl, p, _, rfl, SqL.of hp, fun p2 hp2 => ?_⟩
        refine ⟨p2, rfl, ⟨_, SqL.of upd_same⟩, fun D hD => ?_⟩
        have e2 : upd H1 p2 (.lst (cutV (qs.map V.str ++ [a].map V.str) none (some (-1)))) p2 = some (.lst (qs.map V.str)) := by
          rw [upd_same]
          exact congrArg (fun z => some (HO.lst z)) (cut_last (qs.map V.str) (.str a))
        have s2 : Same H1 (upd H1 p2 (.lst (cutV (qs.map V.str ++ [a].map V.str) none (some (-1))))) := (Same.refl H1).new hp2
        have nD1 : H1 D = none := s2.free hD
        refine lc_list (xs := qs.map V.str) (fun i H' => ∃ rs' l, H' D = some (.lst rs') ∧ IsTs C_Type H' l rs' ∧ ReadsL d (qs.take i) l ∧ (∀ t ∈ l, t.Fits) ∧ Same H1 H' ∧ H' p2 = some (.lst (qs.map V.str))) ?_ (fun i H' _ hP => ?_) (fun i y H' hy hP => ?_) (fun H' hP => ?_)
        · exact ⟨[], [], upd_same, IsTs.nil, by rw [List.take_zero]; exact .nil, fun t h => (by cases h), s2.new hD, by rw [upd_ne (ne_of_none e2 hD)]; exact e2⟩
        · obtain ⟨_, _, _, _, _, _, _, e⟩ := hP
          exact SqL.of e
        · obtain ⟨rs', l, hD1, hl1, rl, fl, sm1, e3⟩ := hP
          rw [List.getElem?_map] at hy
          obtain ⟨pz, hpz, rfl⟩ := Option.map_eq_some_iff.mp hy
          have io := lt_of_get hpz
          have ql := rl.len
          rw [List.length_take] at ql
          refine ⟨rfl, tyes ?_⟩
          refine ⟨.str pz, rfl, .int (d : Int), rfl, pz, d, rfl, lo, d1, pq pz (List.mem_of_getElem? hpz), fun u ru z H5 s5 hz => ?_, fun no H5 s5 => qE (fun t r => ?_) H5 ((s1.trans sm1).trans s5)⟩
          · have hD5 := s5 _ _ hD1
            have h3 : Held H5 (upd H5 D (.lst (rs' ++ [.ref z]))) := held_lst hD5
            refine ⟨rs', hD5, lt_line' (by rw [hl1.len]; omega), rs' ++ [.ref z], l ++ [u], upd_same, ?_, ?_, fun t ht => ?_, (sm1.trans s5).mut nD1, ?_⟩
            · exact (IsTs.held h3 _ _ (IsTs.same s5 _ _ hl1)).app (.cons (IsT.held h3 _ _ hz) .nil)
            · rw [take_next hpz]
              exact rl.app ru
            · rcases List.mem_append.mp ht with ht | ht
              · exact fl t ht
              · rw [List.mem_singleton.mp ht]
                exact ru.fits
            · have np : p2 ≠ D := fun e => by
                rw [← e, e2] at hD
                cases hD
              rw [upd_ne np]
              exact s5 _ _ e3
          · cases r with
            | @mk _ _ b qs2 l2 _ pc2 rl2 _ =>
              rw [pc] at pc2
              obtain ⟨e1, _⟩ := List.append_inj' pc2 rfl
              subst e1
              obtain ⟨t2, _, r2⟩ := rl2.get hpz
              exact no t2 r2
        · obtain ⟨rs', l, hD1, hl1, rl, fl, sm1, e3⟩ := hP
          rw [List.length_map, List.take_length] at rl
          exact q' _ _ ⟨D, rs', l, rfl, hD1, hl1, rl, fl, sm1⟩
      rintro v H2 ⟨D, rs', l, rfl, hD, hl2, rl, fl, s2⟩
      refine ⟨.ref D, rfl, D, rs', rfl, .inl ⟨SqL.of hD, fun l9 hl9 => ?_⟩⟩
      have s9 := s2.new (o := .tup rs') hl9
      have only : ∀ t, Reads d x t → t = .mk l a := fun t r => by
        cases r with
        | @mk _ _ b qs2 l2 _ pc2 rl2 _ =>
          rw [pc] at pc2
          obtain ⟨e1, e2⟩ := List.append_inj' pc2 rfl
          subst e1
          cases e2
          rw [rl.det rl2]
      refine ⟨.ref p, rfl, 1, rfl, p, _, _, .str a, rfl, rfl, SqL.of (s9 _ _ hp), atI_last _ _, ?_⟩
      refine make_tyN upd_same (IsTs.same ((Same.refl H2).new hl9) _ _ hl2) ⟨fl, by rw [← rl.len]; exact few, by have := pa.1; omega, pa.2⟩ (fun fit z H' s h => q _ (.mk (small_plain px (by decide)) pc rl fit) z H' ((s1.trans s9).trans s) h) (fun ww no H' s => (qE (fun t r => ?_) H' ((s1.trans s9).trans s)).1) (fun ww H' s => (qE (fun t r => ?_) H' ((s1.trans s9).trans s)).2)
      · have e := only t r
        subst e
        exact no r.fits
      · have e := only t r
        subst e
        rw [word_fits r.fits] at ww
        cases ww
  intro n
  induction n with
  | zero =>
    have a : FnOk P w K mg base (L2N.CX P w) (7 + 2 * 0) f fd ["text", "depth"] (spr_freelyN 0 K C_Type C_InvalidType C_InvalidWord) := by
      refine F.okCN sc__read_freely (fun vs H Q E h => ?_) (fun cdv A outer s H vs Q E hr h => ?_) <;> (obtain ⟨_, _, _, z, _⟩ := h; exact absurd z (Nat.not_lt_zero _))
    exact ⟨a, piece 0 a⟩
  | succ n ih =>
    have a := freely n ih.2
    exact ⟨a, piece (n + 1) a⟩
end


end My
namespace My
open PySem PySem.Spec PyProof.Rows L2 TL
set_option pp.maxSteps 3000
set_option pp.deepTerms false
/-! ### Type.read: the type, or ParseError(None) -/
/-- the error's own dict: None in its field -/
def ErrD (f : Str) (H H' : Hp) (d : Addr) : Prop := H' d = some (.xd [(f, .non)]) ∧ H d = none ∧ Same H H'
def sp_Type_readX (_ : PySem.W.Frag) (C CP : Addr) : Sp := fun vs H Q E => ∃ x, vs = [.ref C, .str x] ∧ Plain 150 x ∧ (∀ t : Ty, t.Fits → t.text = x → Made C H Q t) ∧ ((∀ t : Ty, t.Fits → t.text ≠ x) → ∀ d H', ErrD "line" H H' d → E (.ref CP) (some d) H')
section
variable {P : Program} {w : World} {K : PySem.W.Frag} {mg : Str → Option Value} {base : Heap} {C_Type C_InvalidType C_InvalidWord CP CB fI : Addr}
theorem ok_Type_readX (T : Txt K mg C_Type) (e_InvalidType : ErrT K mg "InvalidType" C_InvalidType) (e_InvalidWord : ErrT K mg "InvalidWord" C_InvalidWord) (e : ErrP K mg "ParseError" "BuildError" CP CB fI "line")
    (x1 : PySem.W.exmAny K (.ref C_InvalidType) [.ref C_InvalidType, .ref C_InvalidWord] = some true) (x2 : PySem.W.exmAny K (.ref C_InvalidWord) [.ref C_InvalidType, .ref C_InvalidWord] = some true)
    {fdI : FuncData} (F1 : FnOk P w K mg base CX0 2 fI fdI ["self", "line"] (sp_errN CP "line")) (F1H : L2H.FnH P w K mg base CX0 2 fI fdI ["self", "line"] (sp_errN CP "line")) (bI : Binds K fdI ["self", "line"] [])
    {fr : Addr} {fdr : FuncData} (FR : FnOk P w K mg base (L2N.CX P w) 17 fr fdr ["text", "depth"] (spr_freelyN 5 K C_Type C_InvalidType C_InvalidWord)) (mr : mg "_read_freely" = some (.ref fr)) (kr : PySem.W.keepIn K (.ref fr) = true) (br : Binds K fdr ["text", "depth"] [])
    (p_Type_text : PrpC P w K mg base C_Type "text" 1 ["self"] (getSp C_Type "_text")) {f : Addr} {fd : FuncData} (F : Fun K "read" "Type.read" s_Type_read f fd) : FnOk P w K mg base (L2.CX P w) 18 f fd ["cls", "text"] (sp_Type_readX K C_Type CP) := by
  have nd := sc_Type_read.nd
  refine F.okX sc_Type_read (fun vs H Q E h => ?_) (fun cdv A outer s H vs Q E hr h => ?_)
  · obtain ⟨x, rfl, _⟩ := h
    rfl
  · obtain ⟨x, rfl, px, q, qE⟩ := h
    refine ⟨_, (pss_cons (ps_if (pt_not (pt_val (pe_callB call_isi (by rfl) T.b_isinstance (by decide +kernel) (pa_cons (pv 1) (pa_cons (pe_bltn (v := .ty "str") (u := .type "str") (by rfl) T.b_str (by decide +kernel) rfl) pa_nil))))) (pss_one ps_never) pss_nil)
      (pss_cons (ps_try_pairX (Wout := fun cls d _ H => E cls d H) rfl rfl (L2H.passesAt_of rfl) (takes_of rfl rfl rfl rfl)
        (fun W pn xe tk _ => pss_one (ps_set (i := 2) nd rfl (.inl rfl) (pe_callS (E := WE W) FR (hr.mono (by first | decide | omega)) rfl mr kr br (fun σ => L2N.passAt tk σ) (pa_cons (pv 1) (pa_cons (pe_globE rfl T.g_MAX_ORDER) pa_nil)))))
        rfl e_InvalidType.g rfl e_InvalidWord.g
        (fun a oe cls d pn _ _ tkS hot => pss_one (ps_raiseHN (x := "ParseError") e F1H (L2H.roomH_mark (hr.mono (by first | decide | omega)) _) bI hot tkS (by rfl) (pa_cons pe_non pa_nil))))
      (pss_cons (ps_if (pt_cmpR op_ne (pe_propC p_Type_text T.k_Type (hr.mono (by first | decide | omega)) (pv 2)) (pv 1) (nomark _)) (pss_one (ps_raiseN (x := "ParseError") e F1 (hr.mono (by first | decide | omega)) bI rfl (takes_of rfl rfl rfl rfl) (by rfl) (pa_cons pe_non pa_nil))) pss_nil)
      (pss_one (ps_ret (pv 2)))))), ?_⟩
    -- what ParseError(None) leaves
    have refuse : ∀ {σ : L2.St} {H2 : Hp}, Same H H2 → (∀ t : Ty, t.Fits → t.text ≠ x) → tMkO CP (sp_errN CP "line") [] (tCons (tC .non) tNil) σ H2 (fun cls d H' => E cls d H') := fun {σ H2} s2 no => by
      refine ⟨by show 1 ≤ 1000; decide, fun a ha => ⟨a, rfl, upd_same, fun d H' keep ha' hd hd0 nda => ⟨rfl, d, [("line", .non)], ha', hd, ?_, qE no d _ ⟨upd_same, ?_, fun b o hb => ?_⟩⟩⟩⟩
      · rw [upd_ne nda] at hd0
        exact hd0
      · rw [upd_ne nda] at hd0
        exact s2.free hd0
      · rw [upd_ne nda] at hd0
        have hb2 := s2 b o hb
        have nba : b ≠ a := ne_of_none hb2 ha
        rw [upd_ne (ne_of_none hb2 hd0), del_ne nba]
        exact keep b o nba (by rw [upd_ne nba]; exact hb2)
    have none_ : (∀ t, ¬ Reads 4 x t) → ∀ t : Ty, t.Fits → t.text ≠ x := fun no t ft e => no t (e ▸ Ty.reads_text _ t (Nat.le_refl _) ft 4 ft.low)
    refine ⟨.str x, rfl, .str x, .ty "str", .type "str", .type "str", true, rfl, .ty _, .base (.str x), kit_ty (by decide +kernel), true, rfl, iteF ?_⟩
    refine nx_go ?_
    dsimp only
    refine ⟨.str x, rfl, x, 4, rfl, by decide, by decide, px, fun t r z H1 s1 hz => ?_, fun no H1 s1 => ⟨⟨true, x1, fun _ a _ => refuse s1 (none_ no), fun z => nomatch z⟩, ⟨true, x2, fun _ a _ => refuse s1 (none_ no), fun z => nomatch z⟩⟩⟩
    refine asg_go2 ?_
    dsimp only
    obtain ⟨b, dx, p, q', rs, eb, hb, _⟩ := hz.at
    cases eb
    refine ⟨.ref z, rfl, z, dx, _, rfl, hb, z, dx, _, .str t.text, rfl, hb, rfl, .str x, rfl, rfl, _, rfl, ?_⟩
    refine ite2 (fun c => ?_) (fun c => ?_)
    · have ne : t.text ≠ x := fun e => by
        rw [e] at c
        simp at c
      refine refuse s1 fun u fu eu => ?_
      have ru : Reads 4 x u := eu ▸ Ty.reads_text _ u (Nat.le_refl _) fu 4 fu.low
      exact ne ((r.det ru) ▸ eu)
    · have ex : t.text = x := by
        by_cases e : t.text = x
        · exact e
        · exact absurd (by simp [e]) c
      refine nx_go ?_
      exact ⟨.ref z, rfl, q t r.fits ex z H1 s1 hz⟩
end


end My
namespace My
open PySem PySem.Spec PyProof.Rows L2 TL
set_option pp.maxSteps 3000
set_option pp.deepTerms false
/-! ### _law_refusal(lambda: ..) -/
/-- its clauses -/
def ref7 (CT CW CO CN CP : Addr) : List RefC := [.word CT "kind", .word CW "word", .word CO "operation", .fld CN "number" "number ", .fld CP "line" "parse "]
structure Ref7 (K : PySem.W.Frag) (mg : Str → Option Value) (CT CW CO CN CP : Addr) : Prop where
  t : mg "InvalidType" = some (.ref CT)
  w : mg "InvalidWord" = some (.ref CW)
  o : mg "InvalidOperation" = some (.ref CO)
  n : mg "InvalidNumber" = some (.ref CN)
  p : mg "ParseError" = some (.ref CP)
  r : mg "repr" = none
  xn : XfC K CN
  fn : PySem.W.findIn K (.ref CN) "number" = some none
  xp : XfC K CP
  fp : PySem.W.findIn K (.ref CP) "line" = some none
theorem pe_ref7 {X : Cx} {k : Nat} {g c PT CT CW CO CN CP : Addr} {fdg : FuncData} {params : Arguments} {body : Expr} {scope : Scope} {t : XK → TE} {p lpos pos : Pos} (hG : X.A.guards = some []) (F : Fun X.K "_law_refusal" "_law_refusal" s__law_refusal g fdg) (M : X.mg "_law_refusal" = some (.ref g)) (B : L2.Binds X.K fdg ["_law_call"] [])
    (err : Ref7 X.K X.mg CT CW CO CN CP) {Ts : List (Addr × Str)} (inT : (PT, X.env.qual ++ "<lambda>") ∈ Ts) (just : ∀ p ∈ Ts, p.1 = PT → p.2 = X.env.qual ++ "<lambda>") (TB : LamX.TabB X.base X.mg c PT) (code : X.env.code = .ref c) (room : Room (k + 2) X.A) (L : LamX.LamS X.env.scope scope) (hdef : defaultsOf params X.env = ([], []))
    (hbind : ∀ (q : Str) (cl : List (Str × Addr)) (pm cv ctv : Value), bindArgs (PySem.W.kla_fn "<lambda>" q params body scope cl pm cv ctv) ⟨[], []⟩ = pure [])
    (hbody : ∀ (A : Around) (outer : List Env) (s : Shared) (H : Hp) (E : XK) (f c2 : Addr), A.guards = X.A.guards → Room k (A.deeper (LamX.lamEnv X scope s.heap.objs.size f c2)) → PE (LamX.lamCx X A outer s H E scope f c2) body (t E)) (hg : Gl X "_law_refusal" := by rfl) :
    PE X (.Call (.Name "_law_refusal" p) [.Lambda params body scope lpos] [] pos) (LamX.tLam Ts (TRef X.K "fine" (ref7 CT CW CO CN CP)) t) := by
  obtain ⟨oc, od, kV, doc, pm, an, cv, ct, osl, rfl, lk, isCode⟩ := F.ex
  refine pe_lamcallG hg M F.kp lk isCode B sc__law_refusal rfl (.inl rfl) (refusal_gives sc__law_refusal.nd rfl (fun f => rfl) fun s H => ?_) TB code inT just room L hdef hbind hbody
  have r1 := room.deeper (envOfC "_law_refusal" (defScope s__law_refusal) s.heap.objs.size g cv)
  have hu : (X.A.deeper (envOfC "_law_refusal" (defScope s__law_refusal) s.heap.objs.size g cv)).units + 64 < cLine := by have := r1.un; omega
  exact ref_word ⟨rfl, by decide, .inl err.t⟩ (ref_word ⟨rfl, by decide, .inl err.w⟩ (ref_word ⟨rfl, by decide, .inl err.o⟩ (ref_fld hG hu ⟨rfl, by decide, .inl err.n⟩ rfl rfl (.inl rfl) rfl err.r err.xn err.fn (by decide) (by decide) (fun _ => rfl)
    (ref_fld hG hu ⟨rfl, by decide, .inl err.p⟩ rfl rfl (.inl rfl) rfl err.r err.xp err.fp (by decide) (by decide) (fun _ => rfl) .nil))))
/-- which clause takes which -/
structure Exm7 (K : PySem.W.Frag) (CT CW CO CN CP : Addr) : Prop where
  tt : PySem.W.exmOne K (.ref CT) (.ref CT) = some true
  wt : PySem.W.exmOne K (.ref CW) (.ref CT) = some false
  ww : PySem.W.exmOne K (.ref CW) (.ref CW) = some true
  ot : PySem.W.exmOne K (.ref CO) (.ref CT) = some false
  ow : PySem.W.exmOne K (.ref CO) (.ref CW) = some false
  oo : PySem.W.exmOne K (.ref CO) (.ref CO) = some true
  nt : PySem.W.exmOne K (.ref CN) (.ref CT) = some false
  nw : PySem.W.exmOne K (.ref CN) (.ref CW) = some false
  no : PySem.W.exmOne K (.ref CN) (.ref CO) = some false
  nn : PySem.W.exmOne K (.ref CN) (.ref CN) = some true
  pt : PySem.W.exmOne K (.ref CP) (.ref CT) = some false
  pw : PySem.W.exmOne K (.ref CP) (.ref CW) = some false
  po : PySem.W.exmOne K (.ref CP) (.ref CO) = some false
  pn : PySem.W.exmOne K (.ref CP) (.ref CN) = some false
  pp : PySem.W.exmOne K (.ref CP) (.ref CP) = some true
section
variable {K : PySem.W.Frag} {CT CW CO CN CP : Addr} {Q : Str → Hp → Prop} {H : Hp}
theorem Exm7.kind (x : Exm7 K CT CW CO CN CP) (q : Q "kind" H) : refX K Q (ref7 CT CW CO CN CP) (.ref CT) none H := ⟨true, x.tt, fun _ => q, fun z => nomatch z⟩
theorem Exm7.word (x : Exm7 K CT CW CO CN CP) (q : Q "word" H) : refX K Q (ref7 CT CW CO CN CP) (.ref CW) none H := ⟨false, x.wt, (fun z => nomatch z), fun _ => ⟨true, x.ww, fun _ => q, fun z => nomatch z⟩⟩
theorem Exm7.op (x : Exm7 K CT CW CO CN CP) (q : Q "operation" H) : refX K Q (ref7 CT CW CO CN CP) (.ref CO) none H :=
  ⟨false, x.ot, (fun z => nomatch z), fun _ => ⟨false, x.ow, (fun z => nomatch z), fun _ => ⟨true, x.oo, fun _ => q, fun z => nomatch z⟩⟩⟩
theorem Exm7.num (x : Exm7 K CT CW CO CN CP) {H0 : Hp} {dx : Addr} {D : PyData} (e : ErrV "number" H0 H dx D) (g : GoodD D) (q : Q ("number " ++ D.shown) H) : refX K Q (ref7 CT CW CO CN CP) (.ref CN) (some dx) H := by
  obtain ⟨w, h1, _, _, h4⟩ := e
  refine ⟨false, x.nt, (fun z => nomatch z), fun _ => ⟨false, x.nw, (fun z => nomatch z), fun _ => ⟨false, x.no, (fun z => nomatch z), fun _ => ⟨true, x.nn, fun _ => ⟨rfl, dx, _, w, D, rfl, h1, rfl, h4.dz, g.1, ?_, ?_, q⟩, fun z => nomatch z⟩⟩⟩⟩
  · have := g.2.1
    omega
  · have := g.2.2
    have e : ("number " : Str).length = 7 := by decide
    omega
theorem Exm7.parse (x : Exm7 K CT CW CO CN CP) {H0 : Hp} {dx : Addr} (e : ErrD "line" H0 H dx) (q : Q "parse None" H) : refX K Q (ref7 CT CW CO CN CP) (.ref CP) (some dx) H := by
  obtain ⟨h1, _, _⟩ := e
  refine ⟨false, x.pt, (fun z => nomatch z), fun _ => ⟨false, x.pw, (fun z => nomatch z), fun _ => ⟨false, x.po, (fun z => nomatch z), fun _ => ⟨false, x.pn, (fun z => nomatch z), fun _ => ⟨true, x.pp, fun _ => ⟨rfl, dx, _, .non, .none, rfl, h1, rfl, .inl (.inl ⟨.non, by simp only [PyData.hasDict]⟩), by decide +kernel, by decide +kernel, by decide +kernel, ?_⟩, fun z => nomatch z⟩⟩⟩⟩⟩
  exact q
end


end My
namespace My
open PySem PySem.Spec PyProof.Rows L2 TL
set_option pp.maxSteps 3000
set_option pp.deepTerms false
/-! ### renamings judged, whatever they are -/
def renF (kvs : List (Key × V)) (ys : List Str) : Bool := decide (kvs.length = ys.length) && ys.all fun y => match valV kvs (Sum.inr y) with
  | none => false
  | some v => isW v
def sp_ren7 (K : PySem.W.Frag) : Sp := fun vs H Q _ => ∃ u p, ∃ ys : List Str, vs = [u, .ref p] ∧ H p = some (.tup (ys.map V.str)) ∧ ys.length ≤ 100 ∧
  ((∃ ty, TyX K H u ty ∧ PySem.W.kitOne K ty (.type "dict") = some false ∧ Q (.bl false) H) ∨ ∃ d kvs, u = .ref d ∧ H d = some (.dK kvs) ∧ (∀ y v, valV kvs (Sum.inr y) = some v → ∀ H', Same H H' → ValW K H' v) ∧ ∀ H', Same H H' → Q (.bl (renF kvs ys)) H')

/-! ### _is_renaming of anything -/
section
variable {P : Program} {w : World} {K : PySem.W.Frag} {mg : Str → Option Value} {base : Heap} {C_Type : Addr}
theorem ok_ren7 (T : Txt K mg C_Type) (c_is_word : CalN P w K mg base "is_word" 1 ["value"] (sp_is_word K)) {f : Addr} {fd : FuncData} (F : Fun K "_is_renaming" "_is_renaming" s__is_renaming f fd) : FnOk P w K mg base CX0 2 f fd ["names", "atoms"] (sp_ren7 K) := by
  have nd := sc__is_renaming.nd
  refine F.ok sc__is_renaming (fun vs H Q E h => ?_) (fun cdv A outer s H vs Q E hr h => ?_)
  · obtain ⟨u, p, ys, rfl, _⟩ := h
    rfl
  · obtain ⟨u, p, ys, rfl, hp, hy, alt⟩ := h
    refine ⟨_, (pss_cons (ps_if (PW.pt (pw_or (pt_not (pt_val (pe_callB call_isi (by rfl) T.b_isinstance (by decide +kernel) (pa_cons (pv 0) (pa_cons (pe_bltn (v := .ty "dict") (u := .type "dict") (by rfl) T.b_dict (by decide +kernel) rfl) pa_nil))))) (pw_or1 (pt_cmpR op_ne (pe_callB call_lenD (by rfl) T.b_len (by decide +kernel) (pa_cons (pv 0) pa_nil)) (pe_callB call_len (by rfl) T.b_len (by decide +kernel) (pa_cons (pv 1) pa_nil)) (nomark _))))) (pss_one (ps_ret pe_bl)) pss_nil)
      (pss_one (ps_ret (pe_callB (cr_all rfl) (by rfl) T.b_all (by decide +kernel) (pa_cons (pe_lcD (own := [("word", 2)]) (by rfl) nd (pi_tup (pv 1)) (blkOk_by (own := [("word", 2)]) (N := ["names", "atoms", "word"]) (sc := (defScope s__is_renaming)) (by decide +kernel)) (fun _ _ _ _ _ => pg_name (i := 2) nd rfl (Or.inl rfl)) (fun _ _ _ _ _ => pts_nil) (fun _ _ _ _ _ => (pe_and (pe_cmp (pc_din (by first | exact Nat.lt_of_le_of_lt (Nat.add_le_add_left (by decide : 1 ≤ 64) _) hr.units | exact Nat.lt_of_le_of_lt (Nat.add_le_add_left (by decide : 4 ≤ 64) _) hr.units | exact Nat.lt_of_le_of_lt (Nat.add_le_add_left (by decide : 7 ≤ 64) _) hr.units) (pv 2) (pv 0)) (by rfl)) (pe_one (pe_callN c_is_word (hr.mono (by first | decide | omega)) rfl (pa_cons (pe_dget (by first | exact Nat.lt_of_le_of_lt (Nat.add_le_add_left (by decide : 1 ≤ 64) _) hr.units | exact Nat.lt_of_le_of_lt (Nat.add_le_add_left (by decide : 4 ≤ 64) _) hr.units | exact Nat.lt_of_le_of_lt (Nat.add_le_add_left (by decide : 7 ≤ 64) _) hr.units) (pv 0) (pv 2) (fun _ _ => rfl)) pa_nil)))))) pa_nil))))), ?_⟩
    rcases alt with ⟨ty, hu, ku, q⟩ | ⟨d, kvs, rfl, hd, hv, q⟩
    · exact ⟨u, rfl, u, .ty "dict", ty, .type "dict", false, rfl, .ty _, hu, ku, false, rfl, iteT (iteT q)⟩
    refine ⟨.ref d, rfl, .ref d, .ty "dict", .type "dict", .type "dict", true, rfl, .ty _, .base (.dK hd), kit_ty (by decide +kernel), true, rfl, iteF ?_⟩
    refine ⟨.ref d, rfl, d, _, rfl, hd, .ref p, rfl, .ref p, _, rfl, .inr ⟨_, SqT.of hp, rfl⟩, rfl, !decide (kvs.length = ys.length), congrArg V.bl (by rw [List.length_map]; simp; omega), ?_⟩
    unfold renF at q
    by_cases c : kvs.length = ys.length
    case neg =>
      rw [decide_eq_false c] at q ⊢
      exact iteT (q H (Same.refl H))
    rw [decide_eq_true c] at q ⊢
    refine iteF (nx_go ?_)
    dsimp only
    let g : Str → Bool := fun y => match valV kvs (Sum.inr y) with
      | none => false
      | some v => isW v
    refine ⟨.ref p, rfl, p, rfl, ⟨_, SqT.of hp⟩, fun D hD => lc_tup (xs := ys.map V.str) (fun i H' => H' D = some (.lst (((ys.take i).map g).map V.bl)) ∧ Same H H') ?_ (fun i H1 _ hP => SqT.of (hP.2 _ _ hp)) (fun i x H1 hx hP => ?_) (fun H1 hP => ?_)⟩
    · exact ⟨by rw [upd_same, List.take_zero]; rfl, (Same.refl H).mut hD⟩
    · obtain ⟨hD1, s1⟩ := hP
      have io := lt_of_get hx
      rw [List.length_map] at io
      rw [List.getElem?_map, List.getElem?_eq_getElem io] at hx
      cases hx
      have dg : DGet H1 d (.str ys[i]) (valV kvs (Sum.inr ys[i])) := .inl ⟨kvs, Sum.inr ys[i], .inl (s1 _ _ hd), rfl, rfl⟩
      have few : (((ys.take i).map g).map V.bl).length ≤ 1000 := by rw [List.length_map, List.length_map, List.length_take]; omega
      have next : ((ys.take (i + 1)).map g).map V.bl = ((ys.take i).map g).map V.bl ++ [V.bl (g ys[i])] := by
        rw [take_next (List.getElem?_eq_getElem io), List.map_append, List.map_append]
        rfl
      refine ⟨rfl, tyes ?_⟩
      cases e : valV kvs (Sum.inr ys[i]) with
      | none =>
        rw [e] at dg
        have ge : g ys[i] = false := by show (match valV kvs (Sum.inr ys[i]) with | none => false | some v => isW v) = false; rw [e]
        refine ⟨.str ys[i], rfl, .ref d, rfl, d, _, rfl, dg, false, rfl, iteF ?_⟩
        refine ⟨_, hD1, lt_line' (by omega), ?_, s1.mut hD⟩
        rw [upd_same, next, ge]
      | some v =>
        rw [e] at dg
        have ge : g ys[i] = isW v := by show (match valV kvs (Sum.inr ys[i]) with | none => false | some v => isW v) = isW v; rw [e]
        refine ⟨.str ys[i], rfl, .ref d, rfl, d, _, rfl, dg, true, rfl, iteT ?_⟩
        refine ⟨.ref d, rfl, .str ys[i], rfl, d, v, rfl, dg, v, rfl, hv _ v e H1 s1, fun H2 s2 => ?_⟩
        refine ⟨_, s2 _ _ hD1, lt_line' (by omega), ?_, (s1.trans s2).mut hD⟩
        rw [upd_same, next, ge]
    · obtain ⟨hD1, s1⟩ := hP
      rw [List.length_map, List.take_length] at hD1
      refine ⟨D, _, rfl, SqL.of hD1, ?_⟩
      have e : (ys.map g).all id = ys.all g := by rw [List.all_map]; rfl
      rw [e]
      exact q _ s1
end


end My
namespace My
open PySem PySem.Spec PyProof.Rows L2 TL
set_option pp.maxSteps 3000
set_option pp.deepTerms false
/-! ### renamed, put refused -/
def sp_Type_renO (K : PySem.W.Frag) (C CO : Addr) : Sp := fun vs H _ E => ∃ v u, ∃ t : Ty, vs = [v, u] ∧ IsT C H t v ∧ t.Fits ∧
  ((∃ ty, (∀ H', Same H H' → TyX K H' u ty) ∧ PySem.W.kitOne K ty (.type "dict") = some false) ∨ ∃ d kvs, u = .ref d ∧ H d = some (.dK kvs) ∧ (∀ y v, valV kvs (Sum.inr y) = some v → ∀ H', Same H H' → ValW K H' v) ∧ ∀ ys, IsAtoms t ys → renF kvs ys = false) ∧ ∀ H', Same H H' → E (.ref CO) none H'
def sp_Type_putO (K : PySem.W.Frag) (C CE CW : Addr) : Sp := fun vs H _ E => ∃ v a u, vs = [v, a, u] ∧ (∀ H', Same H H' → ValW K H' a) ∧
  ((isW a = false ∧ ∀ H', Same H H' → E (.ref CW) none H') ∨ (isW a = true ∧ (∃ ty, (∀ H', Same H H' → TyX K H' u ty) ∧ PySem.W.kitOne K ty (.ref C) = some false) ∧ ∀ H', Same H H' → E (.ref CE) none H'))
section
variable {P : Program} {w : World} {K : PySem.W.Frag} {mg : Str → Option Value} {base : Heap} {C_Type C_InvalidType C_InvalidWord C_InvalidOperation : Addr}
theorem ok_Type_renO (T : Txt K mg C_Type) (e_InvalidOperation : ErrT K mg "InvalidOperation" C_InvalidOperation) (c__is_renaming : CalN P w K mg base "_is_renaming" 2 ["names", "atoms"] (sp_ren7 K)) (p_Type_atoms : PrpC P w K mg base C_Type "atoms" 1 ["self"] (sp_Type_atoms K C_Type)) {f : Addr} {fd : FuncData} (F : Fun K "renamed" "Type.renamed" s_Type_renamed f fd) : FnOk P w K mg base (L2.CX P w) 6 f fd ["self", "names"] (sp_Type_renO K C_Type C_InvalidOperation) := by
  have nd := sc_Type_renamed.nd
  refine F.okX sc_Type_renamed (fun vs H Q E h => ?_) (fun cdv A outer s H vs Q E hr h => ?_)
  · obtain ⟨v, u, t, rfl, _⟩ := h
    rfl
  · obtain ⟨v, u, t, rfl, ht, ft, alt, q⟩ := h
    refine ⟨_, (pss_cons (ps_if (pt_not (pt_truth (pe_callN c__is_renaming (hr.mono (by first | decide | omega)) rfl (pa_cons (pv 1) (pa_cons (pe_propC p_Type_atoms T.k_Type (hr.mono (by first | decide | omega)) (pv 0)) pa_nil))) (by intro _; rfl))) (pss_one (ps_raise rfl (takes_of rfl rfl rfl rfl) (pmk_own PySem.F.excBase_ValueError e_InvalidOperation.exc e_InvalidOperation.g e_InvalidOperation.k (raises_own e_InvalidOperation.b e_InvalidOperation.t) rfl))) pss_nil)
      (pss_cons ps_never (pss_one ps_never))), ?_⟩
    obtain ⟨b, dx, p, q', rs, rfl, hb, hp, hl, hq⟩ := ht.at
    have fp := ft.few
    refine ⟨u, rfl, .ref b, rfl, b, dx, _, rfl, hb, .ref b, t, rfl, ht, ft, fun p1 ys H1 s1 hp1 ia => ?_⟩
    refine ⟨u, p1, ys, rfl, hp1, Nat.le_trans ia.2.2.2 (by omega), ?_⟩
    rcases alt with ⟨ty, hu, ku⟩ | ⟨d, kvs, rfl, hd, hv, no⟩
    · exact .inl ⟨ty, hu H1 s1, ku, ⟨false, rfl, iteT (q H1 s1)⟩⟩
    · refine .inr ⟨d, kvs, rfl, s1 _ _ hd, fun y v e H2 s2 => hv y v e H2 (s1.trans s2), fun H2 s2 => ?_⟩
      rw [no ys ia]
      exact ⟨false, rfl, iteT (q H2 (s1.trans s2))⟩
theorem ok_Type_putO (T : Txt K mg C_Type) (e_InvalidType : ErrT K mg "InvalidType" C_InvalidType) (e_InvalidWord : ErrT K mg "InvalidWord" C_InvalidWord) (c_is_word : CalN P w K mg base "is_word" 1 ["value"] (sp_is_word K)) {f : Addr} {fd : FuncData} (F : Fun K "put" "Type.put" s_Type_put f fd) : FnOk P w K mg base (L2.CX P w) 6 f fd ["self", "atom", "other"] (sp_Type_putO K C_Type C_InvalidType C_InvalidWord) := by
  have nd := sc_Type_put.nd
  refine F.okX sc_Type_put (fun vs H Q E h => ?_) (fun cdv A outer s H vs Q E hr h => ?_)
  · obtain ⟨v, a, u, rfl, _⟩ := h
    rfl
  · obtain ⟨v, a, u, rfl, ha, alt⟩ := h
    refine ⟨_, (pss_cons (ps_if (pt_not (pt_val (pe_callN c_is_word (hr.mono (by first | decide | omega)) rfl (pa_cons (pv 1) pa_nil)))) (pss_one (ps_raise rfl (takes_of rfl rfl rfl rfl) (pmk_own PySem.F.excBase_ValueError e_InvalidWord.exc e_InvalidWord.g e_InvalidWord.k (raises_own e_InvalidWord.b e_InvalidWord.t) rfl))) pss_nil)
      (pss_cons (ps_if (pt_not (pt_val (pe_callB call_isi (by rfl) T.b_isinstance (by decide +kernel) (pa_cons (pv 2) (pa_cons (pe_glob (v := .ref C_Type) rfl T.c_Type rfl) pa_nil))))) (pss_one (ps_raise rfl (takes_of rfl rfl rfl rfl) (pmk_own PySem.F.excBase_ValueError e_InvalidType.exc e_InvalidType.g e_InvalidType.k (raises_own e_InvalidType.b e_InvalidType.t) rfl))) pss_nil)
      (pss_cons ps_never (pss_cons ps_never (pss_one ps_never))))), ?_⟩
    refine ⟨a, rfl, a, rfl, ha H (Same.refl H), fun H1 s1 => ⟨_, rfl, ?_⟩⟩
    rcases alt with ⟨wa, q⟩ | ⟨wa, ⟨ty, hu, ku⟩, q⟩
    · rw [wa]
      exact iteT (q H1 s1)
    · rw [wa]
      refine iteF (nx_go ?_)
      dsimp only
      exact ⟨u, rfl, u, .ref C_Type, ty, .ref C_Type, false, rfl, .own _, hu H1 s1, ku, false, rfl, iteT (q H1 s1)⟩
end


end My
namespace My
open PySem PySem.Spec PyProof.Rows L2 TL
set_option pp.maxSteps 3000
set_option pp.deepTerms false
/-! ### plain refused -/
def sp_Type_plainO (K : PySem.W.Frag) (C CW : Addr) : Sp := fun vs H _ E => ∃ u, vs = [.ref C, u] ∧ (∀ H', Same H H' → ValW K H' u) ∧ isW u = false ∧ ∀ H', Same H H' → E (.ref CW) none H'
section
variable {P : Program} {w : World} {K : PySem.W.Frag} {mg : Str → Option Value} {base : Heap} {C_Type C_InvalidType C_InvalidWord : Addr}
theorem ok_Type_plainO (T : Txt K mg C_Type) (i_Type___init__Y : MakY (L2.CX P w) P w K mg base C_Type 4 ["self", "inputs", "atom"] (sp_Type_initO K C_Type C_InvalidType C_InvalidWord)) {f : Addr} {fd : FuncData} (F : Fun K "plain" "Type.plain" s_Type_plain f fd) :
    FnOk P w K mg base (L2.CX P w) 6 f fd ["cls", "atom"] (sp_Type_plainO K C_Type C_InvalidWord) := by
  have nd := sc_Type_plain.nd
  refine F.okX sc_Type_plain (fun vs H Q E h => ?_) (fun cdv A outer s H vs Q E hr h => ?_)
  · obtain ⟨u, rfl, _⟩ := h
    rfl
  · obtain ⟨u, rfl, hu, wu, q⟩ := h
    refine ⟨_, (pss_one (ps_ret (pe_makeVY i_Type___init__Y (hr.mono (by first | decide | omega)) (passes_call (takes_of rfl rfl rfl rfl) fun _ _ _ _ h => h) (pv 0) (pa_cons (pe_tup pa_nil) (pa_cons (pv 1) pa_nil))))), ?_⟩
    refine ⟨_, rfl, rfl, Nat.zero_le _, fun p hp => ?_⟩
    have s0 := (Same.refl H).new (o := .tup []) hp
    refine ⟨u, rfl, fun x dx hx hdx ne => ?_⟩
    have z : Same (upd H p (.tup [])) (upd (upd (upd H p (.tup [])) dx (.own x)) x (.ins C_Type dx [])) := ((Same.refl _).new hdx).new (by rw [upd_ne (Ne.symm ne)]; exact hx)
    exact ⟨x, dx, .ref p, u, rfl, upd_same, .inr ⟨p, [], [], rfl, z _ _ upd_same, IsTs.nil, by decide, fun H' s => hu H' ((s0.trans z).trans s), wu, fun H' s => q H' ((s0.trans z).trans s)⟩⟩
end


end My
namespace My
open PySem PySem.Spec PyProof.Rows L2 TL
set_option pp.maxSteps 3000
set_option pp.deepTerms false
/-! ### Type.read of what is no str -/
def sp_Type_readO (K : PySem.W.Frag) (C CP : Addr) : Sp := fun vs H _ E => ∃ u, vs = [.ref C, u] ∧ (∃ ty, TyX K H u ty ∧ PySem.W.kitOne K ty (.type "str") = some false) ∧ ∀ d H', ErrD "line" H H' d → E (.ref CP) (some d) H'
section
variable {P : Program} {w : World} {K : PySem.W.Frag} {mg : Str → Option Value} {base : Heap} {C_Type C_InvalidType C_InvalidWord CP CB fI : Addr}
theorem ok_Type_readO (T : Txt K mg C_Type) (e : ErrP K mg "ParseError" "BuildError" CP CB fI "line") {fdI : FuncData} (F1 : FnOk P w K mg base CX0 2 fI fdI ["self", "line"] (sp_errN CP "line")) (bI : Binds K fdI ["self", "line"] [])
    {f : Addr} {fd : FuncData} (F : Fun K "read" "Type.read" s_Type_read f fd) : FnOk P w K mg base (L2.CX P w) 18 f fd ["cls", "text"] (sp_Type_readO K C_Type CP) := by
  have nd := sc_Type_read.nd
  refine F.okX sc_Type_read (fun vs H Q E h => ?_) (fun cdv A outer s H vs Q E hr h => ?_)
  · obtain ⟨u, rfl, _⟩ := h
    rfl
  · obtain ⟨u, rfl, ⟨ty, hu, ku⟩, qE⟩ := h
    refine ⟨_, (pss_cons (ps_if (pt_not (pt_val (pe_callB call_isi (by rfl) T.b_isinstance (by decide +kernel) (pa_cons (pv 1) (pa_cons (pe_bltn (v := .ty "str") (u := .type "str") (by rfl) T.b_str (by decide +kernel) rfl) pa_nil))))) (pss_one (ps_raiseN (x := "ParseError") e F1 (hr.mono (by first | decide | omega)) bI rfl (takes_of rfl rfl rfl rfl) (by rfl) (pa_cons pe_non pa_nil))) pss_nil)
      (pss_cons ps_never (pss_cons ps_never (pss_one ps_never)))), ?_⟩
    refine ⟨u, rfl, u, .ty "str", ty, .type "str", false, rfl, .ty _, hu, ku, false, rfl, iteT ?_⟩
    refine ⟨by show 1 ≤ 1000; decide, fun a ha => ⟨a, rfl, upd_same, fun d H' keep ha' hd hd0 nda => ⟨rfl, d, [("line", .non)], ha', hd, ?_, qE d _ ⟨upd_same, ?_, fun b o hb => ?_⟩⟩⟩⟩
    · rw [upd_ne nda] at hd0
      exact hd0
    · rw [upd_ne nda] at hd0
      exact hd0
    · rw [upd_ne nda] at hd0
      have nba : b ≠ a := ne_of_none hb ha
      rw [upd_ne (ne_of_none hb hd0), del_ne nba]
      exact keep b o nba (by rw [upd_ne nba]; exact hb)
end


end My
namespace My
open PySem PySem.Spec PyProof.Rows L2 TL
set_option pp.maxSteps 3000
set_option pp.deepTerms false
/-! ### integers judged, whatever they are -/
def isI7 : V → Bool
  | .int i => decide ((if i < 0 then -i else i) < 10 ^ 60)
  | _ => false
def ValI7 (K : PySem.W.Frag) (H : Hp) (v : V) : Prop := (∃ i, v = .int i) ∨ (∃ b, v = .bl b) ∨ (∃ t, TyX K H v t ∧ PySem.W.kitOne K t (.type "int") = some false ∧ isI7 v = false)
def sp_int7 (K : PySem.W.Frag) : Sp := fun vs H Q _ => ∃ v, vs = [v] ∧ ValI7 K H v ∧ ∀ H', Same H H' → Q (.bl (isI7 v)) H'

/-! ### % refused -/
def sp_Type_modO (K : PySem.W.Frag) (C CO : Addr) : Sp := fun vs H _ E => ∃ v u, ∃ t : Ty, vs = [v, u] ∧ IsT C H t v ∧ t.ins.length ≤ 1000 ∧ (∀ H', Same H H' → ValI7 K H' u) ∧ (isI7 u = false ∨ ∃ i : Int, u = .int i ∧ isI7 u = true ∧ (i < 0 ∨ (t.ins.length : Int) < i)) ∧ ∀ H', Same H H' → E (.ref CO) none H'
section
variable {P : Program} {w : World} {K : PySem.W.Frag} {mg : Str → Option Value} {base : Heap} {C_Type C_InvalidOperation : Addr}
theorem ok_int7 (T : Txt K mg C_Type) {f : Addr} {fd : FuncData} (F : Fun K "is_integer" "is_integer" s_is_integer f fd) : FnOk P w K mg base CX0 1 f fd ["value"] (sp_int7 K) := by
  have nd := sc_is_integer.nd
  refine F.ok sc_is_integer (fun vs H Q E h => ?_) (fun cdv A outer s H vs Q E hr h => ?_)
  · obtain ⟨v, rfl, _⟩ := h
    rfl
  · obtain ⟨v, rfl, hv, q⟩ := h
    refine ⟨_, (pss_one (ps_ret (pe_and (pe_callB call_isi (by rfl) T.b_isinstance (by decide +kernel) (pa_cons (pv 0) (pa_cons (pe_bltn (v := .ty "int") (u := .type "int") (by rfl) T.b_int (by decide +kernel) rfl) pa_nil))) (pe_and (pe_not (pe_callB call_isi (by rfl) T.b_isinstance (by decide +kernel) (pa_cons (pv 0) (pa_cons (pe_bltn (v := .ty "bool") (u := .type "bool") (by rfl) T.b_bool (by decide +kernel) rfl) pa_nil)))) (pe_one (pe_cmpR op_lt (pe_callB call_abs (by rfl) T.b_abs (by decide +kernel) (pa_cons (pv 0) pa_nil)) (pe_op op_powW pe_int pe_int) (nomark _))))))), ?_⟩
    have z := q H (Same.refl H)
    rcases hv with ⟨i, rfl⟩ | ⟨b, rfl⟩ | ⟨t, ht, hk, hw⟩
    · refine ⟨.int i, rfl, .int i, .ty "int", .type "int", .type "int", true, rfl, .ty _, .base (.int i), kit_ty (by decide +kernel), true, rfl, iteT ?_⟩
      refine ⟨.int i, rfl, .int i, .ty "bool", .type "int", .type "bool", false, rfl, .ty _, .base (.int i), kit_ty (by decide +kernel), false, rfl, true, rfl, iteT ?_⟩
      exact ⟨.int i, rfl, i, rfl, 10, 60, rfl, rfl, ⟨by decide, by decide +kernel⟩, _, _, rfl, rfl, z⟩
    · refine ⟨.bl b, rfl, .bl b, .ty "int", .type "bool", .type "int", true, rfl, .ty _, .base (.bl b), kit_ty (by decide +kernel), true, rfl, iteT ?_⟩
      exact ⟨.bl b, rfl, .bl b, .ty "bool", .type "bool", .type "bool", true, rfl, .ty _, .base (.bl b), kit_ty (by decide +kernel), true, rfl, false, rfl, iteF z⟩
    · rw [hw] at z
      exact ⟨v, rfl, v, .ty "int", t, .type "int", false, rfl, .ty _, ht, hk, false, rfl, iteF z⟩
theorem ok_Type_modO (T : Txt K mg C_Type) (e_InvalidOperation : ErrT K mg "InvalidOperation" C_InvalidOperation) {i_sp : Sp} (i_Type___init__ : MakX P w K mg base C_Type 4 ["self", "inputs", "atom"] i_sp) (c_is_integer : CalN P w K mg base "is_integer" 1 ["value"] (sp_int7 K)) {f : Addr} {fd : FuncData} (F : Fun K "__mod__" "Type.__mod__" s_Type___mod__ f fd) : FnOk P w K mg base (L2.CX P w) 6 f fd ["self", "other"] (sp_Type_modO K C_Type C_InvalidOperation) := by
  have nd := sc_Type___mod__.nd
  refine F.okX sc_Type___mod__ (fun vs H Q E h => ?_) (fun cdv A outer s H vs Q E hr h => ?_)
  · obtain ⟨v, u, t, rfl, _⟩ := h
    rfl
  · obtain ⟨v, u, t, rfl, ht, len, hu, alt, q⟩ := h
    refine ⟨_, (pss_cons (ps_if (PW.pt (pw_or (pt_not (pt_val (pe_callN c_is_integer (hr.mono (by first | decide | omega)) rfl (pa_cons (pv 1) pa_nil)))) (pw_or1 (pt_not (pt_chain op_le op_le pe_int (pv 1) (pe_callB call_len (by rfl) T.b_len (by decide +kernel) (pa_cons (pe_fld (pv 0) rfl) pa_nil))))))) (pss_one (ps_raise rfl (takes_of rfl rfl rfl rfl) (pmk_own PySem.F.excBase_ValueError e_InvalidOperation.exc e_InvalidOperation.g e_InvalidOperation.k (raises_own e_InvalidOperation.b e_InvalidOperation.t) rfl))) pss_nil)
      (pss_one (ps_ret (pe_makeX i_Type___init__ (hr.mono (by first | decide | omega)) rfl T.c_Type (passes_call (takes_of rfl rfl rfl rfl) fun _ _ _ _ h => h) (pa_cons (pe_slice sl_tupA (pe_fld (pv 0) rfl) (po_some (pv 1)) po_none) (pa_cons (pe_fld (pv 0) rfl) pa_nil)))))), ?_⟩
    refine ⟨u, rfl, u, rfl, hu H (Same.refl H), fun H1 s1 => ⟨_, rfl, ?_⟩⟩
    rcases alt with no | ⟨i, rfl, yes, out⟩
    · rw [no]
      exact iteT (iteT (q H1 s1))
    · rw [yes]
      obtain ⟨b, dx, p, q', rs, rfl, hb, hp, hl, _⟩ := (IsT.same s1 t v ht).at
      have lr := hl.len
      refine iteF ⟨.int i, rfl, 0, i, rfl, rfl, _, rfl, ite2 (fun c => ?_) (fun c => ?_)⟩
      · have c : 0 ≤ i := of_decide_eq_true c
        have d : decide (i ≤ (rs.length : Int)) = false := decide_eq_false (by omega)
        refine ⟨.ref b, rfl, b, C_Type, dx, _, .ref p, rfl, hb, T.k_Type, T.x_Type.n_inputs, rfl, .ref p, rs.length, rfl, .inr ⟨rs, SqT.of hp, rfl⟩, i, (rs.length : Int), rfl, rfl, _, rfl, ?_⟩
        rw [d]
        exact iteT (q H1 s1)
      · exact ⟨false, rfl, iteT (q H1 s1)⟩
end


end My
namespace My
open PySem PySem.Spec PyProof.Rows L2 TL
set_option pp.maxSteps 3000
set_option pp.deepTerms false
/-! ### drawn values of built-in types -/
section
variable {K : PySem.W.Frag}
/-- a dice rolls meanwhile -/
theorem roll_at {H H' : Hp} {d a : Addr} {o : HO} (e : Ext d H H') (D : IsDice H d) (h : H a = some o) (n : ∀ vs, o ≠ .lst vs) : H' a = some o := e _ _ (fun z => by
  obtain ⟨x, y, u, hd⟩ := D
  rw [z, hd] at h
  exact n _ (Option.some.inj h).symm) h
theorem roll_lst {H H' : Hp} {d a : Addr} {vs : List V} (e : Ext d H H') (D' : IsDice H' d) (h : H a = some (.lst vs)) : ∃ vs', H' a = some (.lst vs') := by
  by_cases c : a = d
  · obtain ⟨x, y, u, hd⟩ := D'
    exact ⟨_, c ▸ hd⟩
  · exact ⟨_, e _ _ c h⟩
theorem roll_nil {H H' : Hp} {d a : Addr} (e : Ext d H H') (D : IsDice H d) (h : H a = some (.lst [])) : H' a = some (.lst []) := e _ _ (fun z => by
  obtain ⟨x, y, u, hd⟩ := D
  rw [z, hd] at h
  cases h) h
/-- no word -/
inductive OddV (H : Hp) : V → Prop
  | non : OddV H .non
  | int (i : Int) : OddV H (.int i)
  | bl (b : Bool) : OddV H (.bl b)
  | str {y : Str} (l : y.length ≤ 1000) (c : ∀ c ∈ y.cps.toList, c < 128) (w : isW (.str y) = false) : OddV H (.str y)
  | tup {a : Addr} {vs : List V} (h : H a = some (.tup vs)) : OddV H (.ref a)
  | list {a : Addr} {vs : List V} (h : H a = some (.lst vs)) : OddV H (.ref a)
  | dict {a : Addr} {kvs : List (Key × V)} (h : H a = some (.dK kvs)) : OddV H (.ref a)
theorem OddV.ext {H H' : Hp} (e : LamX.ExtN H H') {v : V} (h : OddV H v) : OddV H' v := by
  cases h with
  | non => exact .non
  | int i => exact .int i
  | bl b => exact .bl b
  | str l c w => exact .str l c w
  | tup h => exact .tup (e _ _ h fun _ z => nomatch z)
  | list h => exact .list (e _ _ h fun _ z => nomatch z)
  | dict h => exact .dict (e _ _ h fun _ z => nomatch z)
theorem OddV.roll {H H' : Hp} {d : Addr} (e : Ext d H H') (D : IsDice H d) (D' : IsDice H' d) {v : V} (h : OddV H v) : OddV H' v := by
  cases h with
  | non => exact .non
  | int i => exact .int i
  | bl b => exact .bl b
  | str l c w => exact .str l c w
  | tup h => exact .tup (roll_at e D h fun _ z => nomatch z)
  | list h =>
    obtain ⟨_, h⟩ := roll_lst e D' h
    exact .list h
  | dict h => exact .dict (roll_at e D h fun _ z => nomatch z)
theorem OddV.valW {H : Hp} {v : V} (h : OddV H v) : (∀ H', Same H H' → ValW K H' v) ∧ isW v = false := by
  cases h with
  | non => exact ⟨fun _ _ => .inr ⟨_, .base .non, kit_ty (by decide +kernel), rfl⟩, rfl⟩
  | int i => exact ⟨fun _ _ => .inr ⟨_, .base (.int i), kit_ty (by decide +kernel), rfl⟩, rfl⟩
  | bl b => exact ⟨fun _ _ => .inr ⟨_, .base (.bl b), kit_ty (by decide +kernel), rfl⟩, rfl⟩
  | str l c w => exact ⟨fun _ _ => .inl ⟨_, rfl, l, c⟩, w⟩
  | tup h => exact ⟨fun _ s => .inr ⟨_, .base (.tup (s _ _ h)), kit_ty (by decide +kernel), rfl⟩, rfl⟩
  | list h => exact ⟨fun _ s => .inr ⟨_, .base (.lst (s _ _ h)), kit_ty (by decide +kernel), rfl⟩, rfl⟩
  | dict h => exact ⟨fun _ s => .inr ⟨_, .base (.dK (s _ _ h)), kit_ty (by decide +kernel), rfl⟩, rfl⟩
/-- a value of a built-in type -/
inductive KindV (H : Hp) : V → String → Prop
  | non : KindV H .non "NoneType"
  | int (i : Int) : KindV H (.int i) "int"
  | bl (b : Bool) : KindV H (.bl b) "bool"
  | str (y : Str) : KindV H (.str y) "str"
  | tup {a : Addr} {vs : List V} (h : H a = some (.tup vs)) : KindV H (.ref a) "tuple"
  | list {a : Addr} {vs : List V} (h : H a = some (.lst vs)) : KindV H (.ref a) "list"
  | dict {a : Addr} {kvs : List (Key × V)} (h : H a = some (.dK kvs)) : KindV H (.ref a) "dict"
theorem KindV.ext {H H' : Hp} (e : LamX.ExtN H H') {v : V} {S : String} (h : KindV H v S) : KindV H' v S := by
  cases h with
  | non => exact .non
  | int i => exact .int i
  | bl b => exact .bl b
  | str y => exact .str y
  | tup h => exact .tup (e _ _ h fun _ z => nomatch z)
  | list h => exact .list (e _ _ h fun _ z => nomatch z)
  | dict h => exact .dict (e _ _ h fun _ z => nomatch z)
theorem KindV.roll {H H' : Hp} {d : Addr} (e : Ext d H H') (D : IsDice H d) (D' : IsDice H' d) {v : V} {S : String} (h : KindV H v S) : KindV H' v S := by
  cases h with
  | non => exact .non
  | int i => exact .int i
  | bl b => exact .bl b
  | str y => exact .str y
  | tup h => exact .tup (roll_at e D h fun _ z => nomatch z)
  | list h =>
    obtain ⟨_, h⟩ := roll_lst e D' h
    exact .list h
  | dict h => exact .dict (roll_at e D h fun _ z => nomatch z)
theorem KindV.tyx {H : Hp} {v : V} {S : String} (h : KindV H v S) : ∀ H', Same H H' → TyX K H' v (.type S) := fun H' s => by
  cases h with
  | non => exact .base .non
  | int i => exact .base (.int i)
  | bl b => exact .base (.bl b)
  | str y => exact .base (.str y)
  | tup h => exact .base (.tup (s _ _ h))
  | list h => exact .base (.lst (s _ _ h))
  | dict h => exact .base (.dK (s _ _ h))
theorem KindV.mem {H : Hp} {v : V} {S : String} (h : KindV H v S) : S ∈ ["NoneType", "int", "bool", "str", "list", "tuple", "dict"] := by
  cases h <;> decide
theorem KindV.valI {H : Hp} {v : V} {S : String} (h : KindV H v S) : ∀ H', Same H H' → ValI7 K H' v := fun H' s => by
  have ty := h.tyx (K := K) H' s
  cases h with
  | non => exact .inr (.inr ⟨_, ty, kit_ty (by decide +kernel), rfl⟩)
  | int i => exact .inl ⟨i, rfl⟩
  | bl b => exact .inr (.inl ⟨b, rfl⟩)
  | str y => exact .inr (.inr ⟨_, ty, kit_ty (by decide +kernel), rfl⟩)
  | tup h => exact .inr (.inr ⟨_, ty, kit_ty (by decide +kernel), rfl⟩)
  | list h => exact .inr (.inr ⟨_, ty, kit_ty (by decide +kernel), rfl⟩)
  | dict h => exact .inr (.inr ⟨_, ty, kit_ty (by decide +kernel), rfl⟩)
end

/-! ### what the law draws: no arguments, no atoms, no texts -/
section
variable {K : PySem.W.Frag} {mg : Str → Option Value} {C_Type : Addr}
/-- no tuple of types, or the type itself -/
inductive BadV (H : Hp) (x : V) : V → Prop
  | non : BadV H x .non
  | zero : BadV H x (.int 0)
  | word : BadV H x (.str "a")
  | list {a : Addr} {vs : List V} (h : H a = some (.lst vs)) : BadV H x (.ref a)
  | dict {a : Addr} (h : H a = some (.dK [])) : BadV H x (.ref a)
  | tnon {a : Addr} (h : H a = some (.tup [.non])) : BadV H x (.ref a)
  | two {a : Addr} (h : H a = some (.tup [x, .str "a"])) : BadV H x (.ref a)
  | text {a : Addr} {y : Str} (h : H a = some (.tup [.str y])) : BadV H x (.ref a)
  | made : BadV H x x
theorem BadV.ext {H H' : Hp} (e : LamX.ExtN H H') {x v : V} (h : BadV H x v) : BadV H' x v := by
  cases h with
  | non => exact .non
  | zero => exact .zero
  | word => exact .word
  | list h => exact .list (e _ _ h fun _ z => nomatch z)
  | dict h => exact .dict (e _ _ h fun _ z => nomatch z)
  | tnon h => exact .tnon (e _ _ h fun _ z => nomatch z)
  | two h => exact .two (e _ _ h fun _ z => nomatch z)
  | text h => exact .text (e _ _ h fun _ z => nomatch z)
  | made => exact .made
theorem BadV.roll {H H' : Hp} {d : Addr} (e : Ext d H H') (D : IsDice H d) (D' : IsDice H' d) {x v : V} (h : BadV H x v) : BadV H' x v := by
  cases h with
  | non => exact .non
  | zero => exact .zero
  | word => exact .word
  | list h =>
    obtain ⟨_, h⟩ := roll_lst e D' h
    exact .list h
  | dict h => exact .dict (roll_at e D h fun _ z => nomatch z)
  | tnon h => exact .tnon (roll_at e D h fun _ z => nomatch z)
  | two h => exact .two (roll_at e D h fun _ z => nomatch z)
  | text h => exact .text (roll_at e D h fun _ z => nomatch z)
  | made => exact .made
theorem NeL.none (N : NeL K C_Type) {Ty0 : String} (m : Ty0 ∈ ["NoneType", "int", "str", "list", "tuple", "dict"]) : PySem.W.kitOne K (.ref C_Type) (.type Ty0) = some false := ni_of (by revert m; simp only [List.mem_cons, List.not_mem_nil, or_false]; rintro (rfl | rfl | rfl | rfl | rfl | rfl) <;> decide +kernel) (N.s _ m)
theorem tyx_made (T : Txt K mg C_Type) {H : Hp} {t : Ty} {x : V} (h : IsT C_Type H t x) : ∀ H', Same H H' → TyX K H' x (.ref C_Type) := fun H' s => by
  obtain ⟨a, dx, p, q', rs, rfl, ha, _⟩ := (IsT.same s t x h).at
  exact ty_of_ins T.k_Type T.x_Type ha
theorem BadV.noTys (T : Txt K mg C_Type) (N : NeL K C_Type) {H : Hp} {t : Ty} {x v : V} (h : BadV H x v) (hx : IsT C_Type H t x) : NoTys K C_Type H v := by
  have str : ∀ y : Str, EltT K C_Type H (.str y) false := fun y => .inr ⟨rfl, .type "str", fun _ _ => .base (.str y), T.x_Type.odd_str⟩
  cases h with
  | non => exact .inl ⟨.type "NoneType", fun _ _ => .base .non, kit_ty (by decide +kernel)⟩
  | zero => exact .inl ⟨.type "int", fun _ _ => .base (.int 0), kit_ty (by decide +kernel)⟩
  | word => exact .inl ⟨.type "str", fun _ _ => .base (.str _), kit_ty (by decide +kernel)⟩
  | list h => exact .inl ⟨.type "list", fun _ s => .base (.lst (s _ _ h)), kit_ty (by decide +kernel)⟩
  | dict h => exact .inl ⟨.type "dict", fun _ s => .base (.dK (s _ _ h)), kit_ty (by decide +kernel)⟩
  | tnon h => exact .inr ⟨_, _, [false], rfl, h, by show 1 ≤ 40; decide, ⟨false, [], rfl, .inr ⟨rfl, .type "NoneType", fun _ _ => .base .non, T.x_Type.odd_NoneType⟩, rfl⟩, rfl⟩
  | two h => exact .inr ⟨_, _, [true, false], rfl, h, by show 2 ≤ 40; decide, ⟨true, [false], rfl, .inl ⟨rfl, t, hx⟩, false, [], rfl, str _, rfl⟩, rfl⟩
  | text h => exact .inr ⟨_, _, [false], rfl, h, by show 1 ≤ 40; decide, ⟨false, [], rfl, str _, rfl⟩, rfl⟩
  | made => exact .inl ⟨.ref C_Type, tyx_made T hx, N.none (by decide)⟩
/-- .. told apart from the type -/
theorem BadV.alt (T : Txt K mg C_Type) {H : Hp} {x v : V} (h : BadV H x v) : v = x ∨ ((∃ ty, (∀ H', Same H H' → TyX K H' v ty) ∧ PySem.W.kitOne K ty (.ref C_Type) = some false) ∧ ∃ S, LeftV H v S) := by
  cases h with
  | non => exact .inr ⟨⟨_, fun _ _ => .base .non, T.x_Type.odd_NoneType⟩, _, .inl ⟨rfl, rfl⟩⟩
  | zero => exact .inr ⟨⟨_, fun _ _ => .base (.int 0), T.x_Type.odd_int⟩, _, .inr (.inl ⟨0, rfl, rfl⟩)⟩
  | word => exact .inr ⟨⟨_, fun _ _ => .base (.str _), T.x_Type.odd_str⟩, _, .inr (.inr (.inl ⟨_, rfl, rfl⟩))⟩
  | list h => exact .inr ⟨⟨_, fun _ s => .base (.lst (s _ _ h)), T.x_Type.odd_list⟩, _, .inr (.inr (.inr (.inl ⟨_, _, rfl, h, rfl⟩)))⟩
  | dict h => exact .inr ⟨⟨_, fun _ s => .base (.dK (s _ _ h)), T.x_Type.odd_dict⟩, _, .inr (.inr (.inr (.inr (.inr ⟨_, _, rfl, h, rfl⟩))))⟩
  | tnon h => exact .inr ⟨⟨_, fun _ s => .base (.tup (s _ _ h)), T.x_Type.odd_tuple⟩, _, .inr (.inr (.inr (.inr (.inl ⟨_, _, rfl, h, rfl⟩))))⟩
  | two h => exact .inr ⟨⟨_, fun _ s => .base (.tup (s _ _ h)), T.x_Type.odd_tuple⟩, _, .inr (.inr (.inr (.inr (.inl ⟨_, _, rfl, h, rfl⟩))))⟩
  | text h => exact .inr ⟨⟨_, fun _ s => .base (.tup (s _ _ h)), T.x_Type.odd_tuple⟩, _, .inr (.inr (.inr (.inr (.inl ⟨_, _, rfl, h, rfl⟩))))⟩
  | made => exact .inl rfl
/-- no text of a type -/
inductive NoTxt (H : Hp) (x : V) : V → Prop
  | non : NoTxt H x .non
  | int (i : Int) : NoTxt H x (.int i)
  | bl (b : Bool) : NoTxt H x (.bl b)
  | str {y : Str} (p : Plain 150 y) (n : ∀ t : Ty, t.Fits → t.text ≠ y) : NoTxt H x (.str y)
  | tup {a : Addr} {vs : List V} (h : H a = some (.tup vs)) : NoTxt H x (.ref a)
  | list {a : Addr} {vs : List V} (h : H a = some (.lst vs)) : NoTxt H x (.ref a)
  | dict {a : Addr} {kvs : List (Key × V)} (h : H a = some (.dK kvs)) : NoTxt H x (.ref a)
  | made : NoTxt H x x
theorem NoTxt.ext {H H' : Hp} (e : LamX.ExtN H H') {x v : V} (h : NoTxt H x v) : NoTxt H' x v := by
  cases h with
  | non => exact .non
  | int i => exact .int i
  | bl b => exact .bl b
  | str l c => exact .str l c
  | tup h => exact .tup (e _ _ h fun _ z => nomatch z)
  | list h => exact .list (e _ _ h fun _ z => nomatch z)
  | dict h => exact .dict (e _ _ h fun _ z => nomatch z)
  | made => exact .made
theorem NoTxt.alt (T : Txt K mg C_Type) (N : NeL K C_Type) {H : Hp} {t : Ty} {x v : V} (h : NoTxt H x v) (hx : IsT C_Type H t x) : (∃ ty, TyX K H v ty ∧ PySem.W.kitOne K ty (.type "str") = some false) ∨ ∃ y, v = .str y ∧ Plain 150 y ∧ ∀ t : Ty, t.Fits → t.text ≠ y := by
  cases h with
  | non => exact .inl ⟨_, .base .non, kit_ty (by decide +kernel)⟩
  | int i => exact .inl ⟨_, .base (.int i), kit_ty (by decide +kernel)⟩
  | bl b => exact .inl ⟨_, .base (.bl b), kit_ty (by decide +kernel)⟩
  | str p n => exact .inr ⟨_, rfl, p, n⟩
  | tup h => exact .inl ⟨_, .base (.tup h), kit_ty (by decide +kernel)⟩
  | list h => exact .inl ⟨_, .base (.lst h), kit_ty (by decide +kernel)⟩
  | dict h => exact .inl ⟨_, .base (.dK h), kit_ty (by decide +kernel)⟩
  | made => exact .inl ⟨_, tyx_made T hx H (Same.refl H), N.none (by decide)⟩
/-- no index of n arguments, with its text's data -/
inductive IdxV (n : Nat) (H : Hp) : V → PyData → Prop
  | non : IdxV n H .non .none
  | neg : IdxV n H (.int (-1)) (.int (-1))
  | many : IdxV n H (.int (n : Nat)) (.int (n : Nat))
  | bl : IdxV n H (.bl true) (.bool true)
  | str : IdxV n H (.str "0") (.str "0")
  | tup {a : Addr} (h : H a = some (.tup [.int 0])) : IdxV n H (.ref a) (.tuple [.int 0])
  | list {a : Addr} (h : H a = some (.lst [])) : IdxV n H (.ref a) (.list [])
  | dict {a : Addr} (h : H a = some (.dK [])) : IdxV n H (.ref a) (.dict [])
  | big : IdxV n H (.int (10 ^ 60)) (.int (10 ^ 60))
theorem IdxV.ext {n : Nat} {H H' : Hp} (e : LamX.ExtN H H') {v : V} {D : PyData} (h : IdxV n H v D) : IdxV n H' v D := by
  cases h with
  | non => exact .non
  | neg => exact .neg
  | many => exact .many
  | bl => exact .bl
  | str => exact .str
  | tup h => exact .tup (e _ _ h fun _ z => nomatch z)
  | list h => exact .list (e _ _ h fun _ z => nomatch z)
  | dict h => exact .dict (e _ _ h fun _ z => nomatch z)
  | big => exact .big
theorem IdxV.roll {n : Nat} {H H' : Hp} {d : Addr} (e : Ext d H H') (D : IsDice H d) {v : V} {S : PyData} (h : IdxV n H v S) : IdxV n H' v S := by
  cases h with
  | non => exact .non
  | neg => exact .neg
  | many => exact .many
  | bl => exact .bl
  | str => exact .str
  | tup h => exact .tup (roll_at e D h fun _ z => nomatch z)
  | list h => exact .list (roll_nil e D h)
  | dict h => exact .dict (roll_at e D h fun _ z => nomatch z)
  | big => exact .big
theorem IdxV.kind {n : Nat} {H : Hp} {v : V} {D : PyData} (h : IdxV n H v D) : ∃ S, KindV H v S := by
  cases h with
  | non => exact ⟨_, .non⟩
  | neg => exact ⟨_, .int _⟩
  | many => exact ⟨_, .int _⟩
  | bl => exact ⟨_, .bl _⟩
  | str => exact ⟨_, .str _⟩
  | tup h => exact ⟨_, .tup h⟩
  | list h => exact ⟨_, .list h⟩
  | dict h => exact ⟨_, .dict h⟩
  | big => exact ⟨_, .int _⟩
theorem IdxV.dye {n : Nat} {H : Hp} {v : V} {D : PyData} (h : IdxV n H v D) : DyE (fun _ => True) H v D := by
  cases h with
  | non => exact .inl .non
  | neg => exact .inl (.int _)
  | many => exact .inl (.int _)
  | bl => exact .inl (.bl _)
  | str => exact .inl (.str _)
  | tup h => exact .inl (.tup (by show 1 ≤ 100; decide) trivial h (.cons (.int 0) .nil))
  | list h => exact .inl (.lst (by show 0 ≤ 100; decide) trivial h .nil)
  | dict h => exact .inr ⟨_, rfl, trivial, h, rfl⟩
  | big => exact .inl (.int _)
theorem small_good : ∀ n < 16, GoodD (.int (n : Nat)) := by
  have h : ∀ n < 16, (PyData.int (n : Nat)).showable = true ∧ (PyData.int (n : Nat)).depth ≤ 5 ∧ (PyData.int (n : Nat)).shown.length ≤ 1000 := by decide +kernel
  exact h
theorem IdxV.good {n : Nat} {H : Hp} {v : V} {D : PyData} (h : IdxV n H v D) (l : n < 16) : GoodD D := by
  cases h with
  | many => exact small_good n l
  | _ => exact ⟨by decide +kernel, by decide +kernel, by decide +kernel⟩
theorem IdxV.textOk {n : Nat} {H : Hp} {v : V} {D : PyData} (h : IdxV n H v D) (l : n < 16) : PyData.strOk (("number " : Str) ++ D.shown) = true := by
  cases h with
  | many =>
    have z : ∀ n < 16, PyData.strOk (("number " : Str) ++ (PyData.int (n : Nat)).shown) = true := by decide +kernel
    exact z n l
  | _ => decide +kernel
theorem IdxV.out {n : Nat} {H : Hp} {v : V} {D : PyData} (h : IdxV n H v D) (l : n < 16) : isI7 v = false ∨ ∃ i : Int, v = .int i ∧ isI7 v = true ∧ (i < 0 ∨ (n : Int) ≤ i) := by
  cases h with
  | non => exact .inl rfl
  | neg => exact .inr ⟨-1, rfl, by decide +kernel, .inl (by decide)⟩
  | many =>
    have z : ∀ n < 16, isI7 (.int (n : Nat)) = true := by decide +kernel
    exact .inr ⟨n, rfl, z n l, .inr (Int.le_refl _)⟩
  | bl => exact .inl rfl
  | str => exact .inl rfl
  | tup h => exact .inl rfl
  | list h => exact .inl rfl
  | dict h => exact .inl rfl
  | big => exact .inl (by decide +kernel)
/-- no count of at most n arguments, or the type -/
def CntV (n : Nat) (x : V) (H : Hp) (v : V) : Prop := v = x ∨ ((∃ S, KindV H v S) ∧ (isI7 v = false ∨ ∃ i : Int, v = .int i ∧ isI7 v = true ∧ (i < 0 ∨ (n : Int) < i)))
end
/-- words and texts that are none -/
theorem none7 : ∀ y ∈ (["", "a ->", "(a)", "a - > b", "A", "abcdefghi"] : List Str), Plain 150 y ∧ ∀ t : Ty, t.Fits → t.text ≠ y := by
  intro y hy
  have h1 : dueF y = none := by
    revert hy
    simp only [List.mem_cons, List.not_mem_nil, or_false]
    rintro (rfl | rfl | rfl | rfl | rfl | rfl) <;> decide +kernel
  refine ⟨?_, due_none h1⟩
  revert hy
  simp only [List.mem_cons, List.not_mem_nil, or_false]
  rintro (rfl | rfl | rfl | rfl | rfl | rfl) <;> exact ⟨by decide +kernel, by decide +kernel⟩
theorem oddw7 {H : Hp} : ∀ y ∈ (["", "A", "x0", "abcdefghi", "a -> b"] : List Str), OddV H (.str y) := by
  intro y hy
  simp only [List.mem_cons, List.not_mem_nil, or_false] at hy
  rcases hy with rfl | rfl | rfl | rfl | rfl <;> exact .str (by decide +kernel) (by decide +kernel) (by decide +kernel)


end My
namespace My
open PySem PySem.Spec PyProof.Rows L2 TL
set_option pp.maxSteps 3000
set_option pp.deepTerms false
/-! ### == of a type and a type, or anything else -/
def Odd (K : PySem.W.Frag) (C : Addr) (H : Hp) (u : V) : Prop := ∃ t0, TyX K H u t0 ∧ PySem.W.kitOne K t0 (.ref C) = some false
def sp_Type_eqX (K : PySem.W.Frag) (C : Addr) : Sp := fun vs H Q _ => ∃ v u t, vs = [v, u] ∧ IsT C H t v ∧ ((∃ o, IsT C H o u ∧ ∀ H', Same H H' → Q (.bl (decide (t.text = o.text))) H') ∨ (Odd K C H u ∧ ∀ H', Same H H' → Q (.bl false) H'))
section
variable {P : Program} {w : World} {K : PySem.W.Frag} {mg : Str → Option Value} {base : Heap} {C_Type : Addr}
theorem ok_Type_eqX (T : Txt K mg C_Type) {f : Addr} {fd : FuncData} (F : Fun K "__eq__" "Type.__eq__" s_Type___eq__ f fd) : FnOk P w K mg base CX0 1 f fd ["self", "other"] (sp_Type_eqX K C_Type) := by
  have nd := sc_Type___eq__.nd
  refine F.ok sc_Type___eq__ (fun vs H Q E h => ?_) (fun cdv A outer s H vs Q E hr h => ?_)
  · obtain ⟨v, u, t, rfl, _⟩ := h
    rfl
  · obtain ⟨v, u, t, rfl, ht, h⟩ := h
    refine ⟨_, (pss_one (ps_ret (pe_and (pe_callB call_isi (by rfl) T.b_isinstance (by decide +kernel) (pa_cons (pv 1) (pa_cons (pe_glob (v := .ref C_Type) rfl T.c_Type rfl) pa_nil))) (pe_one (pe_cmpR op_eq (pe_fld (pv 0) rfl) (pe_fld (pv 1) rfl) (nomark _)))))), ?_⟩
    obtain ⟨b, dx, p, q', rs, rfl, hb, _⟩ := ht.at
    rcases h with ⟨o, ho, q⟩ | ⟨⟨t0, ty, no⟩, q⟩
    · obtain ⟨bo, dxo, po, qo, rso, rfl, hbo, _⟩ := ho.at
      refine ⟨.ref bo, rfl, .ref bo, .ref C_Type, .ref C_Type, .ref C_Type, true, rfl, .own _, ty_of_ins T.k_Type T.x_Type hbo, kit_self _, true, rfl, iteT ?_⟩
      refine ⟨.ref b, rfl, b, C_Type, dx, _, .str t.text, rfl, hb, T.k_Type, T.x_Type.n_text, rfl, .ref bo, rfl, bo, C_Type, dxo, _, .str o.text, rfl, hbo, T.k_Type, T.x_Type.n_text, rfl, ?_⟩
      refine ⟨rfl, ?_⟩
      rw [show decide (V.str t.text = V.str o.text) = decide (t.text = o.text) by rw [Bool.eq_iff_iff]; simp]
      exact q H (Same.refl H)
    · refine ⟨u, rfl, u, .ref C_Type, t0, .ref C_Type, false, rfl, .own _, ty, no, false, rfl, iteF ?_⟩
      exact q H (Same.refl H)
end


end My
namespace My
open PySem PySem.Spec PyProof.Rows L2 TL
set_option pp.maxSteps 3000
set_option pp.deepTerms false
/-! ### a def whose code object is known -/
theorem _root_.L2.Fun.okC {P : Program} {w : World} {K : PySem.W.Frag} {mg : Str → Option Value} {base : Heap} {x qual : Str} {st : Stmt} {f : Addr} {fd : FuncData} {N ps : List Str} {k : Nat} {sp : Sp} (F : Fun K x qual st f fd) (S : FnScope N ps (defScope st)) (len : ∀ vs H Q E, sp vs H Q E → vs.length = ps.length)
    (body : ∀ (A : Around) (outer : List Env) (s : Shared) (H : Hp) (vs : List V) (Q : VK) (E : XK), Room k (A.deeper (envOfC qual (defScope st) s.heap.objs.size f fd.code)) → sp vs H Q E →
      ∃ t, PSs (cxOf CX0 P w K mg base N qual (defScope st) f fd.code A outer s H E).nox (defBody st) t ∧ t { nx := fun _ H' => Q .non H', rt := Q } (start N vs) H) : FnOk P w K mg base CX0 (k + 1) f fd ps sp := by
  obtain ⟨oc, od, kV, doc, pm, an, cv, ct, osl, rfl, lk, isCode⟩ := F.ex
  refine fn_of lk isCode S len fun A outer s H vs Q E room h => ?_
  obtain ⟨t, runs, ends⟩ := body A outer s H vs Q E room h
  exact ⟨t, runs.nox, ends⟩
theorem exm_self {K : PySem.W.Frag} {mg : Str → Option Value} {x : Str} {C : Addr} (e : ErrT K mg x C) : PySem.W.exmOne K (.ref C) (.ref C) = some true := by
  have q := e.exc
  unfold PySem.W.excIn at q
  split at q
  · rename_i cd sl hk
    split at q
    · rename_i C2 bm _ _ _ _ _ _ hm _
      simp only [Bool.and_eq_true] at q
      have e1 : C2 = C := beq_iff_eq.mp q.1.1.1.1.1
      have hc : PySem.W.clsIn K C = some cd := by
        unfold PySem.W.clsIn
        rw [hk]
      have sub : PySem.W.subIn K (.ref C) (.ref C) = some true := by
        show (PySem.W.clsIn K C).bind (fun cd => if cd.mro.isEmpty then none else some (cd.mro.contains (.ref C))) = some true
        rw [hc, Option.bind_some, hm, e1]
        simp
      unfold PySem.W.exmOne
      rw [if_pos (by rw [e.b]; rfl)]
      show (if ((PySem.W.clsIn K C).isSome && PySem.W.typeIn K (.ref C) == some (.type "type")) = true then PySem.W.subIn K (.ref C) (.ref C) else none) = some true
      rw [if_pos (by rw [hc, e.t]; rfl), sub]
    · cases q
  · cases q
/-! ### heaps: all stands but the dice and the tables -/
def ExtL (d : Addr) (H H' : Hp) : Prop := ∀ a o, a ≠ d → (∀ ps, o ≠ .tbl ps) → H a = some o → H' a = some o
theorem ExtL.trans {d : Addr} {H H1 H2 : Hp} (a : ExtL d H H1) (b : ExtL d H1 H2) : ExtL d H H2 := fun x o n t h => b x o n t (a x o n t h)
theorem ExtL.of {d : Addr} {H H' : Hp} (e : Ext d H H') : ExtL d H H' := fun a o n _ h => e a o n h
theorem ExtL.same {d : Addr} {H H' : Hp} (e : Same H H') : ExtL d H H' := fun a o _ _ h => e a o h
theorem ExtL.extN {d : Addr} {H H' : Hp} (e : LamX.ExtN H H') : ExtL d H H' := fun a o _ t h => e a o h t
theorem ExtL.refl {d : Addr} (H : Hp) : ExtL d H H := fun _ _ _ _ h => h
theorem ExtL.held {d : Addr} {H H' : Hp} (e : ExtL d H H') (D : IsDice H d) : Held H H' := fun b o hb f => by
  refine e b o (fun z => ?_) (fun ps z => ?_) hb
  · obtain ⟨x, y, u, hd⟩ := D
    rw [z, hd] at hb
    cases hb
    exact f
  · rw [z] at f
    exact f
theorem extN_held {H H' : Hp} (e : LamX.ExtN H H') : Held H H' := fun b o hb f => e b o hb fun ps z => by
  rw [z] at f
  exact f
theorem IsDice.extN {H H' : Hp} {d : Addr} (D : IsDice H d) (e : LamX.ExtN H H') : IsDice H' d := by
  obtain ⟨a, b, c, h⟩ := D
  exact ⟨a, b, c, e _ _ h fun ps z => nomatch z⟩
theorem ExtL.lst {d l : Addr} {H H' : Hp} {xs : List V} (e : ExtL d H H') (n : l ≠ d) (h : H l = some (.lst xs)) : H' l = some (.lst xs) := e _ _ n (fun _ z => nomatch z) h
theorem ExtL.free {d l : Addr} {H H' : Hp} (e : ExtL d H H') (T : ∀ ps, H l ≠ some (.tbl ps)) (n : l ≠ d) (h : H' l = none) : H l = none := by
  cases q : H l with
  | none => rfl
  | some o =>
    rw [e l o n (fun ps z => T ps (by rw [q, z])) q] at h
    cases h
/-- the tables, over whatever leaves all but the dice -/
theorem tabs_ext {T : List (Addr × Str)} {H H' : Hp} {d : Addr} (t : LamX.Tabs T H) (D : IsDice H d) (e : Ext d H H') : LamX.Tabs T H' := fun p hp => by
  obtain ⟨ps, h1, h2, h3⟩ := t p hp
  have no : ∀ b o, H b = some o → (∀ xs, o ≠ .lst xs) → H' b = some o := fun b o hb nl => e b o (fun z => by
    obtain ⟨x, y, u, hd⟩ := D
    rw [z, hd] at hb
    exact nl _ (Option.some.inj hb).symm) hb
  refine ⟨ps, no _ _ h1 (fun xs z => nomatch z), h2, fun pos cv hc => ?_⟩
  obtain ⟨c, e1, e2⟩ := h3 pos cv hc
  exact ⟨c, e1, no _ _ e2 fun xs z => by
    unfold LamX.CodeO at z
    cases z⟩


end My
namespace My
open PySem PySem.Spec PyProof.Rows L2 TL
set_option pp.maxSteps 3000
set_option pp.deepTerms false
/-! ### wrong arguments -/
abbrev lamM : Str := ("_law_made_wrongly" : Str) ++ ".<locals>." ++ "<lambda>"
def sp__law_made_wrongly (Ts : List (Addr × Str)) (_ : PySem.W.Frag) (C : Addr) : Sp := fun vs H Q _ => ∃ d x t, vs = [.ref d, x] ∧ IsDice H d ∧ LamX.Tabs Ts H ∧ IsT C H t x ∧ t.Fits ∧ ∀ H', ExtL d H H' → IsDice H' d → LamX.Tabs Ts H' → Q (.bl true) H'
section
variable {P : Program} {w : World} {K : PySem.W.Frag} {mg : Str → Option Value} {base : Heap} {C_Type CT CW CO CN CP : Addr} {Ts : List (Addr × Str)}
theorem ok__law_made_wrongly (T : Txt K mg C_Type) (N7 : NeL K C_Type) (e_ref : Ref7 K mg CT CW CO CN CP) (x7 : Exm7 K CT CW CO CN CP) (c__law_pick : CalN P w K mg base "_law_pick" 2 ["_law_dice_here", "_law_items"] (sp__law_pick K)) (p_Type_text : PrpC P w K mg base C_Type "text" 1 ["self"] (getSp C_Type "_text"))
    (iO : MakX P w K mg base C_Type 4 ["self", "inputs", "atom"] (sp_Type_initO K C_Type CT CW)) (kP : CmtY (L2.CX P w) P w K mg base C_Type "plain" 6 ["cls", "atom"] (sp_Type_plainO K C_Type CW)) (mP : MetX P w K mg base C_Type "put" 6 ["self", "atom", "other"] (sp_Type_putO K C_Type CT CW))
    (kR : CmtY (L2.CX P w) P w K mg base C_Type "read" 18 ["cls", "text"] (fun vs H Q E => sp_Type_readO K C_Type CP vs H Q E ∨ sp_Type_readX K C_Type CP vs H Q E)) (m_eq : MetC P w K mg base C_Type "__eq__" 1 ["self", "other"] (sp_Type_eqX K C_Type))
    {g : Addr} {fdg : FuncData} (F__law_refusal : Fun K "_law_refusal" "_law_refusal" s__law_refusal g fdg) (M__law_refusal : mg "_law_refusal" = some (.ref g)) (B__law_refusal : L2.Binds K fdg ["_law_call"] [])
    {c PT : Addr} (TB : LamX.TabB base mg c PT) (inT : (PT, lamM) ∈ Ts) (just : ∀ p ∈ Ts, p.1 = PT → p.2 = lamM) {f : Addr} {fd : FuncData} (F : Fun K "_law_made_wrongly" "_law_made_wrongly" s__law_made_wrongly f fd) (hcd : fd.code = .ref c) : FnOkG P w K mg base CX0 21 f fd ["_law_dice_here", "_law_made"] (sp__law_made_wrongly Ts K C_Type) := by
  have nd := sc__law_made_wrongly.nd
  refine F.okGC sc__law_made_wrongly (fun vs H Q E h => ?_) (fun A outer s H vs Q E hr hG h => ?_)
  · obtain ⟨d, x, t, rfl, _⟩ := h
    rfl
  · obtain ⟨d, x, t, rfl, hd, hT, ht, ft, q⟩ := h
    refine ⟨_, (pss_cons (ps_set (i := 2) nd rfl (.inr rfl) (pe_callN c__law_pick (hr.mono (by first | decide | omega)) rfl (pa_cons (pv 0) (pa_cons (pe_lst (pa_cons pe_non (pa_cons pe_int (pa_cons (pe_lst pa_nil) (pa_cons (pe_lst (pa_cons (pv 1) pa_nil)) (pa_cons (pe_tup (pa_cons pe_non pa_nil)) (pa_cons (pe_tup (pa_cons (pv 1) (pa_cons pe_str pa_nil))) (pa_cons pe_str (pa_cons pe_dnewK (pa_cons (pv 1) (pa_cons (pe_tup (pa_cons (pe_propC p_Type_text T.k_Type (hr.mono (by first | decide | omega)) (pv 1)) pa_nil)) pa_nil))))))))))) pa_nil))))
      (pss_cons (ps_set (i := 3) nd rfl (.inr rfl) (pe_callN c__law_pick (hr.mono (by first | decide | omega)) rfl (pa_cons (pv 0) (pa_cons (pe_lst (pa_cons pe_non (pa_cons pe_int (pa_cons pe_str (pa_cons pe_str (pa_cons pe_str (pa_cons (pe_tup (pa_cons pe_str pa_nil)) (pa_cons (pe_lst (pa_cons pe_str pa_nil)) (pa_cons pe_dnewK (pa_cons pe_bl (pa_cons pe_str (pa_cons pe_str pa_nil)))))))))))) pa_nil))))
      (pss_cons (ps_set (i := 4) nd rfl (.inr rfl) (pe_callN c__law_pick (hr.mono (by first | decide | omega)) rfl (pa_cons (pv 0) (pa_cons (pe_lst (pa_cons pe_non (pa_cons pe_int (pa_cons (pe_lst pa_nil) (pa_cons (pe_tup pa_nil) (pa_cons pe_dnewK (pa_cons pe_str (pa_cons (pv 1) (pa_cons pe_str (pa_cons pe_str (pa_cons pe_str (pa_cons pe_str (pa_cons pe_str (pa_cons pe_bl pa_nil)))))))))))))) pa_nil))))
      (pss_cons (ps_set (i := 5) nd rfl (.inl rfl) (pe_lst (pa_cons (pe_ref7 (k := 18) hG F__law_refusal M__law_refusal B__law_refusal e_ref inT just TB hcd (hr.mono (by first | decide | omega)) (LamX.lamS_by (sc := defScope s__law_made_wrongly) (by decide +kernel)) rfl (fun _ _ _ _ _ => rfl) (fun A outer s H E f c2 gs hr2 => (pe_makeX iO (hr2.mono (by first | decide | omega)) rfl T.c_Type (passes_call (takes_of rfl rfl rfl rfl) fun _ _ _ _ h => h) (pa_cons (pv 2) (pa_cons (pv 3) pa_nil))))) pa_nil)))
      (pss_cons (ps_expr (pe_bm PySem.F.plainAttrs_list PySem.F.slot_list_append PySem.F.type_list_append mt_append (pv 5) (pa_cons (pe_ref7 (k := 18) hG F__law_refusal M__law_refusal B__law_refusal e_ref inT just TB hcd (hr.mono (by first | decide | omega)) (LamX.lamS_by (sc := defScope s__law_made_wrongly) (by decide +kernel)) rfl (fun _ _ _ _ _ => rfl) (fun A outer s H E f c2 gs hr2 => (pe_makeX iO (hr2.mono (by first | decide | omega)) rfl T.c_Type (passes_call (takes_of rfl rfl rfl rfl) fun _ _ _ _ h => h) (pa_cons (pe_tup pa_nil) (pa_cons (pv 3) pa_nil))))) pa_nil)))
      (pss_cons (ps_expr (pe_bm PySem.F.plainAttrs_list PySem.F.slot_list_append PySem.F.type_list_append mt_append (pv 5) (pa_cons (pe_ref7 (k := 18) hG F__law_refusal M__law_refusal B__law_refusal e_ref inT just TB hcd (hr.mono (by first | decide | omega)) (LamX.lamS_by (sc := defScope s__law_made_wrongly) (by decide +kernel)) rfl (fun _ _ _ _ _ => rfl) (fun A outer s H E f c2 gs hr2 => (pe_makeX iO (hr2.mono (by first | decide | omega)) rfl T.c_Type (passes_call (takes_of rfl rfl rfl rfl) fun _ _ _ _ h => h) (pa_cons (pe_tup (pa_cons (pv 1) pa_nil)) (pa_cons (pv 3) pa_nil))))) pa_nil)))
      (pss_cons (ps_expr (pe_bm PySem.F.plainAttrs_list PySem.F.slot_list_append PySem.F.type_list_append mt_append (pv 5) (pa_cons (pe_ref7 (k := 18) hG F__law_refusal M__law_refusal B__law_refusal e_ref inT just TB hcd (hr.mono (by first | decide | omega)) (LamX.lamS_by (sc := defScope s__law_made_wrongly) (by decide +kernel)) rfl (fun _ _ _ _ _ => rfl) (fun A outer s H E f c2 gs hr2 => (pe_cmethY kP (hr2.mono (by first | decide | omega)) (passes_call (takes_of rfl rfl rfl rfl) fun _ _ _ _ h => h) (pe_glob (v := .ref C_Type) rfl T.c_Type rfl) (pa_cons (pv 3) pa_nil)))) pa_nil)))
      (pss_cons (ps_expr (pe_bm PySem.F.plainAttrs_list PySem.F.slot_list_append PySem.F.type_list_append mt_append (pv 5) (pa_cons (pe_ref7 (k := 18) hG F__law_refusal M__law_refusal B__law_refusal e_ref inT just TB hcd (hr.mono (by first | decide | omega)) (LamX.lamS_by (sc := defScope s__law_made_wrongly) (by decide +kernel)) rfl (fun _ _ _ _ _ => rfl) (fun A outer s H E f c2 gs hr2 => (pe_methX mP T.k_Type (hr2.mono (by first | decide | omega)) (passes_call (takes_of rfl rfl rfl rfl) fun _ _ _ _ h => h) (pv 1) (pa_cons (pv 3) (pa_cons (pv 2) pa_nil))))) pa_nil)))
      (pss_cons (ps_expr (pe_bm PySem.F.plainAttrs_list PySem.F.slot_list_append PySem.F.type_list_append mt_append (pv 5) (pa_cons (pe_ref7 (k := 18) hG F__law_refusal M__law_refusal B__law_refusal e_ref inT just TB hcd (hr.mono (by first | decide | omega)) (LamX.lamS_by (sc := defScope s__law_made_wrongly) (by decide +kernel)) rfl (fun _ _ _ _ _ => rfl) (fun A outer s H E f c2 gs hr2 => (pe_methX mP T.k_Type (hr2.mono (by first | decide | omega)) (passes_call (takes_of rfl rfl rfl rfl) fun _ _ _ _ h => h) (pv 1) (pa_cons pe_str (pa_cons (pe_ifExp (pt_cmpR (op_or (op_neL m_eq (hr2.mono (by first | decide | omega)) N7) (op_neC m_eq (hr2.mono (by first | decide | omega)) T.x_Type.nfirst T.x_Type.ne T.x_Type.under)) (pv 2) (pv 1) (nomark _)) (pv 2) pe_non) pa_nil))))) pa_nil)))
      (pss_cons (ps_expr (pe_bm PySem.F.plainAttrs_list PySem.F.slot_list_append PySem.F.type_list_append mt_append (pv 5) (pa_cons (pe_ref7 (k := 18) hG F__law_refusal M__law_refusal B__law_refusal e_ref inT just TB hcd (hr.mono (by first | decide | omega)) (LamX.lamS_by (sc := defScope s__law_made_wrongly) (by decide +kernel)) rfl (fun _ _ _ _ _ => rfl) (fun A outer s H E f c2 gs hr2 => (pe_cmethY kR (hr2.mono (by first | decide | omega)) (passes_call (takes_of rfl rfl rfl rfl) fun _ _ _ _ h => h) (pe_glob (v := .ref C_Type) rfl T.c_Type rfl) (pa_cons (pv 4) pa_nil)))) pa_nil)))
      (pss_one (ps_ret (pe_cmpR (op_eqD hr.units) (pv 5) (pe_lst (pa_cons pe_str (pa_cons pe_str (pa_cons pe_str (pa_cons pe_str (pa_cons pe_str (pa_cons pe_str (pa_cons pe_str pa_nil)))))))) (nomark _)))))))))))))), ?_⟩
    obtain ⟨bx, dx, px, qx, rx, rfl, hb, _⟩ := id ht.at
    refine cut_set (fun v H' => BadV H' (.ref bx) v ∧ Ext d H H' ∧ IsDice H' d) (fun Q' k => ?_) ?_
    · have D0 := hd
      refine ⟨.ref d, rfl, Nat.zero_le _, fun p1 h1 => ?_⟩
      have s1 := (Same.refl H).new (o := .lst []) h1
      have f1 : upd H p1 (.lst []) p1 = some (.lst []) := upd_same
      have n1 := D0.ne h1
      have D1 : IsDice (upd H p1 (.lst [])) d := D0.same s1
      generalize upd H p1 (.lst []) = G1 at s1 f1 D1 ⊢
      refine ⟨.ref bx, rfl, by show 1 ≤ sizeLine; decide, fun p2 h2 => ?_⟩
      have s2 := (Same.refl G1).new (o := .lst [.ref bx]) h2
      have f2 : upd G1 p2 (.lst [.ref bx]) p2 = some (.lst [.ref bx]) := upd_same
      have n2 := D1.ne h2
      have D2 : IsDice (upd G1 p2 (.lst [.ref bx])) d := D1.same s2
      generalize upd G1 p2 (.lst [.ref bx]) = G2 at s2 f2 D2 ⊢
      refine ⟨by show 1 ≤ sizeLine; decide, fun p3 h3 => ?_⟩
      have s3 := (Same.refl G2).new (o := .tup [.non]) h3
      have f3 : upd G2 p3 (.tup [.non]) p3 = some (.tup [.non]) := upd_same
      have n3 := D2.ne h3
      have D3 : IsDice (upd G2 p3 (.tup [.non])) d := D2.same s3
      generalize upd G2 p3 (.tup [.non]) = G3 at s3 f3 D3 ⊢
      refine ⟨.ref bx, rfl, by show 2 ≤ sizeLine; decide, fun p4 h4 => ?_⟩
      have s4 := (Same.refl G3).new (o := .tup [.ref bx, .str "a"]) h4
      have f4 : upd G3 p4 (.tup [.ref bx, .str "a"]) p4 = some (.tup [.ref bx, .str "a"]) := upd_same
      have n4 := D3.ne h4
      have D4 : IsDice (upd G3 p4 (.tup [.ref bx, .str "a"])) d := D3.same s4
      generalize upd G3 p4 (.tup [.ref bx, .str "a"]) = G4 at s4 f4 D4 ⊢
      intro p5 h5
      have s5 := (Same.refl G4).new (o := .dK []) h5
      have f5 : upd G4 p5 (.dK []) p5 = some (.dK []) := upd_same
      have n5 := D4.ne h5
      have D5 : IsDice (upd G4 p5 (.dK [])) d := D4.same s5
      generalize upd G4 p5 (.dK []) = G5 at s5 f5 D5 ⊢
      have s15 := (((s1.trans s2).trans s3).trans s4).trans s5
      refine ⟨.ref bx, rfl, .ref bx, rfl, bx, dx, _, rfl, s15 _ _ hb, bx, dx, _, .str t.text, rfl, s15 _ _ hb, rfl, by show 1 ≤ sizeLine; decide, fun p6 h6 => ?_⟩
      have s6 := (Same.refl G5).new (o := .tup [.str t.text]) h6
      have f6 : upd G5 p6 (.tup [.str t.text]) p6 = some (.tup [.str t.text]) := upd_same
      have n6 := D5.ne h6
      have D6 : IsDice (upd G5 p6 (.tup [.str t.text])) d := D5.same s6
      generalize upd G5 p6 (.tup [.str t.text]) = G6 at s6 f6 D6 ⊢
      refine ⟨by show 10 ≤ sizeLine; decide, fun l hl => ⟨d, l, _, rfl, D6.new hl, .inl (.inl upd_same), D6.ne hl, by simp, by show 10 < 1000000; decide, fun v H2 hv e2 d2 => k _ _ ⟨?_, ?_, d2⟩⟩⟩
      · have far : ∀ b o, b ≠ d → G6 b = some o → H2 b = some o := fun b o n h => e2 b o n ((upd_ne (ne_of_none h hl)).trans h)
        simp only [List.mem_cons, List.not_mem_nil, or_false] at hv
        rcases hv with rfl | rfl | rfl | rfl | rfl | rfl | rfl | rfl | rfl | rfl
        · exact .non
        · exact .zero
        · exact .list (far _ _ n1 (s6 _ _ (s5 _ _ (s4 _ _ (s3 _ _ (s2 _ _ f1))))))
        · exact .list (far _ _ n2 (s6 _ _ (s5 _ _ (s4 _ _ (s3 _ _ f2)))))
        · exact .tnon (far _ _ n3 (s6 _ _ (s5 _ _ (s4 _ _ f3))))
        · exact .two (far _ _ n4 (s6 _ _ (s5 _ _ f4)))
        · exact .word
        · exact .dict (far _ _ n5 (s6 _ _ f5))
        · exact .made
        · exact .text (far _ _ n6 f6)
      · exact fun b o n h => e2 b o n ((upd_ne (ne_of_none (s6 _ _ (s15 _ _ h)) hl)).trans (s6 _ _ (s15 _ _ h)))
    rintro bad H1 ⟨b1, e1, d1⟩
    have e1 : Ext d H H1 := e1
    have ht1 := IsT.held ((ExtL.of e1).held hd) t _ ht
    have T1 := tabs_ext hT hd e1
    obtain ⟨_, dx1, _, _, _, ex, hb1, _⟩ := id ht1.at
    cases ex
    refine cut_set (fun v H' => OddV H' v ∧ Ext d H1 H' ∧ IsDice H' d) (fun Q' k => ?_) ?_
    · have D0 := d1
      refine ⟨.ref d, rfl, by show 1 ≤ sizeLine; decide, fun p1 h1 => ?_⟩
      have s1 := (Same.refl H1).new (o := .tup [.str "a"]) h1
      have f1 : upd H1 p1 (.tup [.str "a"]) p1 = some (.tup [.str "a"]) := upd_same
      have n1 := D0.ne h1
      have D1 : IsDice (upd H1 p1 (.tup [.str "a"])) d := D0.same s1
      generalize upd H1 p1 (.tup [.str "a"]) = G1 at s1 f1 D1 ⊢
      refine ⟨by show 1 ≤ sizeLine; decide, fun p2 h2 => ?_⟩
      have s2 := (Same.refl G1).new (o := .lst [.str "a"]) h2
      have f2 : upd G1 p2 (.lst [.str "a"]) p2 = some (.lst [.str "a"]) := upd_same
      have n2 := D1.ne h2
      have D2 : IsDice (upd G1 p2 (.lst [.str "a"])) d := D1.same s2
      generalize upd G1 p2 (.lst [.str "a"]) = G2 at s2 f2 D2 ⊢
      intro p3 h3
      have s3 := (Same.refl G2).new (o := .dK []) h3
      have f3 : upd G2 p3 (.dK []) p3 = some (.dK []) := upd_same
      have n3 := D2.ne h3
      have D3 : IsDice (upd G2 p3 (.dK [])) d := D2.same s3
      generalize upd G2 p3 (.dK []) = G3 at s3 f3 D3 ⊢
      refine ⟨by show 11 ≤ sizeLine; decide, fun l hl => ⟨d, l, _, rfl, D3.new hl, .inl (.inl upd_same), D3.ne hl, by simp, by show 11 < 1000000; decide, fun v H2 hv e2 d2 => k _ _ ⟨?_, ?_, d2⟩⟩⟩
      · have far : ∀ b o, b ≠ d → G3 b = some o → H2 b = some o := fun b o n h => e2 b o n ((upd_ne (ne_of_none h hl)).trans h)
        simp only [List.mem_cons, List.not_mem_nil, or_false] at hv
        rcases hv with rfl | rfl | rfl | rfl | rfl | rfl | rfl | rfl | rfl | rfl | rfl
        · exact .non
        · exact .int 0
        · exact oddw7 _ (by simp)
        · exact oddw7 _ (by simp)
        · exact oddw7 _ (by simp)
        · exact .tup (far _ _ n1 (s3 _ _ (s2 _ _ f1)))
        · exact .list (far _ _ n2 (s3 _ _ f2))
        · exact .dict (far _ _ n3 f3)
        · exact .bl true
        · exact oddw7 _ (by simp)
        · exact oddw7 _ (by simp)
      · exact fun b o n h => e2 b o n ((upd_ne (ne_of_none (s3 _ _ (s2 _ _ (s1 _ _ h))) hl)).trans (s3 _ _ (s2 _ _ (s1 _ _ h))))
    rintro odd H2 ⟨b2, e2, d2⟩
    have e2 : Ext d H1 H2 := e2
    have b1 := b1.roll e2 d1 d2
    have ht2 := IsT.held ((ExtL.of e2).held d1) t _ ht1
    have T2 := tabs_ext T1 d1 e2
    refine cut_set (fun v H' => NoTxt H' (.ref bx) v ∧ Ext d H2 H' ∧ IsDice H' d) (fun Q' k => ?_) ?_
    · have D0 := d2
      refine ⟨.ref d, rfl, Nat.zero_le _, fun p1 h1 => ?_⟩
      have s1 := (Same.refl H2).new (o := .lst []) h1
      have f1 : upd H2 p1 (.lst []) p1 = some (.lst []) := upd_same
      have n1 := D0.ne h1
      have D1 : IsDice (upd H2 p1 (.lst [])) d := D0.same s1
      generalize upd H2 p1 (.lst []) = G1 at s1 f1 D1 ⊢
      refine ⟨Nat.zero_le _, fun p2 h2 => ?_⟩
      have s2 := (Same.refl G1).new (o := .tup []) h2
      have f2 : upd G1 p2 (.tup []) p2 = some (.tup []) := upd_same
      have n2 := D1.ne h2
      have D2 : IsDice (upd G1 p2 (.tup [])) d := D1.same s2
      generalize upd G1 p2 (.tup []) = G2 at s2 f2 D2 ⊢
      intro p3 h3
      have s3 := (Same.refl G2).new (o := .dK []) h3
      have f3 : upd G2 p3 (.dK []) p3 = some (.dK []) := upd_same
      have n3 := D2.ne h3
      have D3 : IsDice (upd G2 p3 (.dK [])) d := D2.same s3
      generalize upd G2 p3 (.dK []) = G3 at s3 f3 D3 ⊢
      refine ⟨.ref bx, rfl, by show 13 ≤ sizeLine; decide, fun l hl => ⟨d, l, _, rfl, D3.new hl, .inl (.inl upd_same), D3.ne hl, by simp, by show 13 < 1000000; decide, fun v H2 hv e2 d2 => k _ _ ⟨?_, ?_, d2⟩⟩⟩
      · have far : ∀ b o, b ≠ d → G3 b = some o → H2 b = some o := fun b o n h => e2 b o n ((upd_ne (ne_of_none h hl)).trans h)
        simp only [List.mem_cons, List.not_mem_nil, or_false] at hv
        rcases hv with rfl | rfl | rfl | rfl | rfl | rfl | rfl | rfl | rfl | rfl | rfl | rfl | rfl
        · exact .non
        · exact .int 0
        · exact .list (far _ _ n1 (s3 _ _ (s2 _ _ f1)))
        · exact .tup (far _ _ n2 (s3 _ _ f2))
        · exact .dict (far _ _ n3 f3)
        · exact .str (none7 _ (by simp)).1 (none7 _ (by simp)).2
        · exact .made
        · exact .str (none7 _ (by simp)).1 (none7 _ (by simp)).2
        · exact .str (none7 _ (by simp)).1 (none7 _ (by simp)).2
        · exact .str (none7 _ (by simp)).1 (none7 _ (by simp)).2
        · exact .str (none7 _ (by simp)).1 (none7 _ (by simp)).2
        · exact .str (none7 _ (by simp)).1 (none7 _ (by simp)).2
        · exact .bl true
      · exact fun b o n h => e2 b o n ((upd_ne (ne_of_none (s3 _ _ (s2 _ _ (s1 _ _ h))) hl)).trans (s3 _ _ (s2 _ _ (s1 _ _ h))))
    rintro txt H3 ⟨b3, e3, d3⟩
    have e3 : Ext d H2 H3 := e3
    have b1 := b1.roll e3 d2 d3
    have b2 := b2.roll e3 d2 d3
    have ht3 := IsT.held ((ExtL.of e3).held d2) t _ ht2
    have T3 := tabs_ext T2 d2 e3
    have dx0 := hb1
    refine tell_first "kind" T3 (fun G e Q' k => ?_) fun L G1 g1 => ?_
    · have htG := IsT.held (extN_held e) t _ ht3
      refine ⟨bad, rfl, odd, rfl, fun x dx' hx hdx ne => ?_⟩
      have z : Same G (upd (upd G dx' (.own x)) x (.ins C_Type dx' [])) := ((Same.refl _).new hdx).new (by rw [upd_ne (Ne.symm ne)]; exact hx)
      exact ⟨x, dx', bad, odd, rfl, upd_same, .inl ⟨(b1.ext (e.trans (.of z))).noTys T N7 (IsT.same z t _ htG), fun H' s => x7.kind (k H' (z.trans s))⟩⟩
    refine tell_next "word" g1 rfl (by decide) (fun G e Q' k => ?_) fun G2 g2 => ?_
    · refine ⟨Nat.zero_le _, fun p hp => ?_⟩
      have s0 := (Same.refl G).new (o := .tup []) hp
      refine ⟨odd, rfl, fun x dx' hx hdx ne => ?_⟩
      have z : Same (upd G p (.tup [])) (upd (upd (upd G p (.tup [])) dx' (.own x)) x (.ins C_Type dx' [])) := ((Same.refl _).new hdx).new (by rw [upd_ne (Ne.symm ne)]; exact hx)
      have w0 := (b2.ext e).valW (K := K)
      exact ⟨x, dx', .ref p, odd, rfl, upd_same, .inr ⟨p, [], [], rfl, z _ _ upd_same, IsTs.nil, by decide, fun H' s => w0.1 H' ((s0.trans z).trans s), w0.2, fun H' s => x7.word (k H' ((s0.trans z).trans s))⟩⟩
    refine tell_next "word" g2 rfl (by decide) (fun G e Q' k => ?_) fun G3 g3 => ?_
    · have htG := IsT.held (extN_held e) t _ ht3
      refine ⟨.ref bx, rfl, by show 1 ≤ sizeLine; decide, fun p hp => ?_⟩
      have s0 := (Same.refl G).new (o := .tup [.ref bx]) hp
      refine ⟨odd, rfl, fun x dx' hx hdx ne => ?_⟩
      have z : Same (upd G p (.tup [.ref bx])) (upd (upd (upd G p (.tup [.ref bx])) dx' (.own x)) x (.ins C_Type dx' [])) := ((Same.refl _).new hdx).new (by rw [upd_ne (Ne.symm ne)]; exact hx)
      have w0 := (b2.ext e).valW (K := K)
      exact ⟨x, dx', .ref p, odd, rfl, upd_same, .inr ⟨p, [.ref bx], [t], rfl, z _ _ upd_same, .cons (IsT.same (s0.trans z) t _ htG) .nil, by show 1 ≤ 40; decide, fun H' s => w0.1 H' ((s0.trans z).trans s), w0.2, fun H' s => x7.word (k H' ((s0.trans z).trans s))⟩⟩
    refine tell_next "word" g3 rfl (by decide) (fun G e Q' k => ?_) fun G4 g4 => ?_
    · have w0 := (b2.ext e).valW (K := K)
      refine ⟨rfl, odd, rfl, ?_⟩
      exact ⟨odd, rfl, w0.1, w0.2, fun H' s => x7.word (k H' s)⟩
    refine tell_next "word" g4 rfl (by decide) (fun G e Q' k => ?_) fun G5 g5 => ?_
    · have w0 := (b2.ext e).valW (K := K)
      have htG := IsT.held (extN_held e) t _ ht3
      obtain ⟨_, dxG, _, _, _, exG, hbG, _⟩ := id htG.at
      cases exG
      refine ⟨.ref bx, rfl, bx, dxG, _, rfl, hbG, rfl, odd, rfl, bad, rfl, ?_⟩
      exact ⟨_, _, _, rfl, w0.1, .inl ⟨w0.2, fun H' s => x7.word (k H' s)⟩⟩
    refine tell_next "kind" g5 rfl (by decide) (fun G e Q' k => ?_) fun G6 g6 => ?_
    · have htG := IsT.held (extN_held e) t _ ht3
      obtain ⟨_, dxG, _, _, _, exG, hbG, _⟩ := id htG.at
      cases exG
      refine ⟨.ref bx, rfl, bx, dxG, _, rfl, hbG, ?_⟩
      have fin : ∀ u H1, Same G H1 → ((∃ ty, (∀ H', Same H1 H' → TyX K H' u ty) ∧ PySem.W.kitOne K ty (.ref C_Type) = some false)) → sp_Type_putO K C_Type CT CW [.ref bx, .str "a", u] H1 (fun _ H' => Q' (.str "fine") H') (refX K (fun w H' => Q' (.str w) H') (ref7 CT CW CO CN CP)) := fun u H1 s1 h =>
        ⟨_, _, _, rfl, fun _ _ => .inl ⟨"a", rfl, by decide +kernel, by decide +kernel⟩, .inr ⟨by decide +kernel, h, fun H' s => x7.kind (k H' (s1.trans s))⟩⟩
      rcases (b1.ext e).alt T with rfl | ⟨hu, S, hS⟩
      · refine ⟨rfl, .ref bx, rfl, .ref bx, rfl, .inr ⟨bx, dxG, _, bx, dxG, _, rfl, rfl, hbG, hbG, _, _, t, rfl, htG, .inl ⟨t, htG, fun H1 s1 => ⟨true, by rw [decide_eq_true rfl], false, rfl, iteF (fin .non H1 s1 ⟨_, fun _ _ => .base .non, T.x_Type.odd_NoneType⟩)⟩⟩⟩⟩
      · obtain ⟨ty, hty, kty⟩ := hu
        exact ⟨rfl, bad, rfl, .ref bx, rfl, .inl ⟨bx, dxG, _, S, rfl, hbG, hS, _, _, t, rfl, htG, .inr ⟨⟨ty, hty G (Same.refl G), kty⟩, fun H1 s1 => ⟨false, rfl, true, rfl, iteT ⟨bad, rfl, fin bad H1 s1 ⟨ty, fun H' s => hty H' (s1.trans s), kty⟩⟩⟩⟩⟩⟩
    refine tell_next "parse None" g6 rfl (by decide) (fun G e Q' k => ?_) fun G7 g7 => ?_
    · have htG := IsT.held (extN_held e) t _ ht3
      refine ⟨rfl, txt, rfl, ?_⟩
      rcases (b3.ext e).alt T N7 htG with h | ⟨y, rfl, py, ny⟩
      · exact .inl ⟨txt, rfl, h, fun dx H' r => x7.parse r (k H' r.2.2)⟩
      · exact .inr ⟨y, rfl, py, fun u fu eu => absurd eu (ny u fu), fun _ dx H' r => x7.parse r (k H' r.2.2)⟩
    refine ⟨.ref L, rfl, by show 7 ≤ sizeLine; decide, fun p hp => ?_⟩
    refine told_same ["kind", "word", "word", "word", "word", "kind", "parse None"] g7.at_ hp fun s8 => ?_
    have far := g7.far.trans (.of s8)
    exact q _ ((((ExtL.of e1).trans (.of e2)).trans (.of e3)).trans (.extN far)) (d3.extN far) (g7.tabs.ext s8)
end


end My
namespace My
open PySem PySem.Spec PyProof.Rows L2 TL
set_option pp.maxSteps 3000
set_option pp.deepTerms false
/-! ### put, as mathematics -/
namespace Ty
mutual
def put (a : Str) (o : Ty) : Ty → Ty
  | .mk l b => if b = a then .mk (putL a o l ++ o.ins) o.atom else .mk (putL a o l) b
def putL (a : Str) (o : Ty) : List Ty → List Ty
  | [] => []
  | t :: r => put a o t :: putL a o r
end
theorem putL_map (a : Str) (o : Ty) : ∀ l : List Ty, putL a o l = l.map (put a o)
  | [] => by rw [putL]; rfl
  | t :: r => by rw [putL, putL_map a o r]; rfl
theorem put_eq (a : Str) (o t : Ty) : put a o t = if t.atom = a then .mk (t.ins.map (put a o) ++ o.ins) o.atom else .mk (t.ins.map (put a o)) t.atom := by
  cases t with
  | mk l b =>
    rw [put, putL_map]
    rfl
end Ty
theorem put_fits_in {a : Str} {o t u : Ty} (h : (Ty.put a o t).Fits) (m : u ∈ t.ins) : (Ty.put a o u).Fits := by
  rw [Ty.put_eq] at h
  split at h
  · exact h.ins (List.mem_append_left _ (List.mem_map_of_mem m))
  · exact h.ins (List.mem_map_of_mem m)

/-! ### put that may be too large -/
def spr_Type_putX (n : Nat) (K : PySem.W.Frag) (C CE : Addr) : Sp := fun vs H Q E => ∃ v u t o a, vs = [v, .str a, u] ∧ IsT C H t v ∧ IsT C H o u ∧ isW (.str a) = true ∧ (∀ c ∈ a.cps.toList, c < 128) ∧ t.order < n ∧ t.Fits ∧ o.Fits ∧
  ((Ty.put a o t).Fits → Made C H Q (Ty.put a o t)) ∧ (¬ (Ty.put a o t).Fits → ∀ H', Same H H' → E (.ref CE) none H')
section
variable {P : Program} {w : World} {K : PySem.W.Frag} {mg : Str → Option Value} {base : Heap} {C_Type C_InvalidType : Addr}
theorem ok_Type_putX (T : Txt K mg C_Type) (i_Type___init__ : MakX P w K mg base C_Type 4 ["self", "inputs", "atom"] (sp_Type_initX K C_Type C_InvalidType)) (c_is_word : CalN P w K mg base "is_word" 1 ["value"] (sp_is_word K)) (p_Type_inputs : PrpC P w K mg base C_Type "inputs" 1 ["self"] (getSp C_Type "_inputs")) (p_Type_atom : PrpC P w K mg base C_Type "atom" 1 ["self"] (getSp C_Type "_atom"))
    {f : Addr} {fd : FuncData} (F : Fun K "put" "Type.put" s_Type_put f fd) (M : Meth K C_Type "put" f) (B : Binds K fd ["self", "atom", "other"] []) : ∀ n : Nat, FnOk P w K mg base (L2.CX P w) (6 + n) f fd ["self", "atom", "other"] (spr_Type_putX n K C_Type C_InvalidType)
  | 0 => by
    refine F.okX sc_Type_put (fun vs H Q E h => ?_) (fun cdv A outer s H vs Q E hr h => ?_) <;> (obtain ⟨_, _, _, _, _, _, _, _, _, _, z, _⟩ := h; exact absurd z (Nat.not_lt_zero _))
  | n + 1 => by
    have ih := ok_Type_putX T i_Type___init__ c_is_word p_Type_inputs p_Type_atom F M B n
    have m_Type_putX : MetX P w K mg base C_Type "put" (6 + n) ["self", "atom", "other"] (spr_Type_putX n K C_Type C_InvalidType) := ⟨f, fd, ih, M, B⟩
    have nd := sc_Type_put.nd
    refine F.okX sc_Type_put (fun vs H Q E h => ?_) (fun cdv A outer s H vs Q E hr h => ?_)
    · obtain ⟨v, u, t, o, a, rfl, _⟩ := h
      rfl
    · obtain ⟨v, u, t, o, a, rfl, ht, ho, ha, as, lo, ft, fo, q, qE⟩ := h
      have hr : Room (6 + n) (A.deeper (envOfC "Type.put" (defScope s_Type_put) s.heap.objs.size f cdv)) := hr
      refine ⟨_, (pss_cons (ps_if (pt_not (pt_val (pe_callN c_is_word (hr.mono (by first | decide | omega)) rfl (pa_cons (pv 1) pa_nil)))) (pss_one ps_never) pss_nil)
      (pss_cons (ps_if (pt_not (pt_val (pe_callB call_isi (by rfl) T.b_isinstance (by decide +kernel) (pa_cons (pv 2) (pa_cons (pe_glob (v := .ref C_Type) rfl T.c_Type rfl) pa_nil))))) (pss_one ps_never) pss_nil)
      (pss_cons (ps_set (i := 3) nd rfl (.inl rfl) (pe_callTy call_tuple_of (by rfl) T.b_tuple (by decide +kernel) (pa_cons (pe_lcX (own := [("one", 4)]) (by rfl) nd rfl rfl (takes_of rfl rfl rfl rfl) (pi_tup (pe_fld (pv 0) rfl)) (blkOk_by (own := [("one", 4)]) (N := ["self", "atom", "other", "inputs", "one"]) (sc := (defScope s_Type_put)) (by decide +kernel)) (fun _ _ _ _ _ => pg_name (i := 4) nd rfl (Or.inl rfl)) (fun _ _ _ _ _ => pts_nil) (fun _ _ _ _ _ _ hp => (pe_methX m_Type_putX T.k_Type (hr.mono (by first | decide | omega)) hp (pv 4) (pa_cons (pv 1) (pa_cons (pv 2) pa_nil))))) pa_nil)))
      (pss_cons (ps_if (pt_cmpR op_eq (pe_fld (pv 0) rfl) (pv 1) (nomark _)) (pss_one (ps_ret (pe_makeX i_Type___init__ (hr.mono (by first | decide | omega)) rfl T.c_Type (passes_call (takes_of rfl rfl rfl rfl) fun _ _ _ _ h => h) (pa_cons (pe_op op_catA (pv 3) (pe_propC p_Type_inputs T.k_Type (hr.mono (by first | decide | omega)) (pv 2))) (pa_cons (pe_propC p_Type_atom T.k_Type (hr.mono (by first | decide | omega)) (pv 2)) pa_nil))))) pss_nil)
      (pss_one (ps_ret (pe_makeX i_Type___init__ (hr.mono (by first | decide | omega)) rfl T.c_Type (passes_call (takes_of rfl rfl rfl rfl) fun _ _ _ _ h => h) (pa_cons (pv 3) (pa_cons (pe_fld (pv 0) rfl) pa_nil))))))))), ?_⟩
      obtain ⟨b, dx, p, q', rs, rfl, hb, hp, hl, hq⟩ := ht.at
      obtain ⟨bo, dxo, po, qo, rso, rfl, hbo, hpo, hlo, hqo⟩ := ho.at
      have few := Fits_ins_len ft
      have fewo := Fits_ins_len fo
      have lr := hl.len
      have lro := hlo.len
      have al := isW_len ha
      have ft' : (Ty.mk t.ins t.atom).Fits := by rw [Ty.mk_eta]; exact ft
      have fo' : (Ty.mk o.ins o.atom).Fits := by rw [Ty.mk_eta]; exact fo
      have eo : t.order = Ty.orderL t.ins := by cases t; rw [Ty.order]; rfl
      refine ⟨.str a, rfl, .str a, rfl, .inl ⟨a, rfl, by omega, as⟩, fun H1 s1 => ⟨true, congrArg V.bl ha, iteF ?_⟩⟩
      refine ⟨.ref bo, rfl, .ref bo, .ref C_Type, .ref C_Type, .ref C_Type, true, rfl, .own _, ty_of_ins T.k_Type T.x_Type (s1 _ _ hbo), kit_self _, true, rfl, iteF ?_⟩
      refine nx_go ?_
      dsimp only
      refine cut_set (fun v H' => ∃ d rs', v = .ref d ∧ H' d = some (.tup rs') ∧ IsTs C_Type H' (t.ins.map (Ty.put a o)) rs' ∧ (∀ u ∈ t.ins, (Ty.put a o u).Fits) ∧ Same H H') (fun Q' q' => ?_) ?_
      · refine ⟨.ref b, rfl, b, C_Type, dx, _, .ref p, rfl, s1 _ _ hb, T.k_Type, T.x_Type.n_inputs, rfl, p, rfl, ⟨rs, SqT.of (s1 _ _ hp)⟩, fun D hD => ?_⟩
        have nD : H D = none := s1.free hD
        refine lc_tup (xs := rs) (fun i H' => ∃ rs', H' D = some (.lst rs') ∧ IsTs C_Type H' ((t.ins.take i).map (Ty.put a o)) rs' ∧ (∀ u ∈ t.ins.take i, (Ty.put a o u).Fits) ∧ Same H H') ?_ (fun i H' _ hP => ?_) (fun i y H' hy hP => ?_) (fun H' hP => ?_)
        · exact ⟨[], upd_same, by rw [List.take_zero]; exact IsTs.nil, (fun u hu => by rw [List.take_zero] at hu; cases hu), s1.mut nD⟩
        · obtain ⟨_, _, _, _, s2⟩ := hP
          exact SqT.of (s2 _ _ hp)
        · obtain ⟨rs', hD1, hl1, af, s2⟩ := hP
          obtain ⟨s, es, hs⟩ := hl.get hy
          have hs2 := IsT.same s2 s y hs
          obtain ⟨b', dx', _, _, _, rfl, hb', _⟩ := hs2.at
          have sm := List.mem_of_getElem? es
          have lo' : s.order < n := by
            have := Ty.low_ins sm
            omega
          refine ⟨rfl, tyes ?_⟩
          refine ⟨.ref b', rfl, b', dx', _, rfl, hb', rfl, .str a, rfl, .ref bo, rfl, .ref b', .ref bo, s, o, a, rfl, hs2, IsT.same s2 o _ ho, ha, as, lo', ft'.ins sm, fo, fun fs x H2 s3 hx => ?_, fun nf H2 s3 => qE (fun fit => nf (put_fits_in fit sm)) H2 (s2.trans s3)⟩
          refine ⟨rs', s3 _ _ hD1, lt_line' (by rw [hl1.len, List.length_map, List.length_take]; omega), rs' ++ [.ref x], upd_same, ?_, ?_, (s2.trans s3).mut nD⟩
          · rw [take_next es, List.map_append]
            have h3 : Held H2 (upd H2 D (.lst (rs' ++ [.ref x]))) := held_lst (s3 _ _ hD1)
            exact (IsTs.held h3 _ _ (IsTs.same s3 _ _ hl1)).app (.cons (IsT.held h3 _ _ hx) .nil)
          · intro u hu
            rw [take_next es] at hu
            rcases List.mem_append.mp hu with z | z
            · exact af u z
            · rw [List.mem_singleton.mp z]
              exact fs
        · obtain ⟨rs', hD1, hl1, af, s2⟩ := hP
          rw [lr, List.take_length] at hl1 af
          refine ⟨D, rs', rfl, .inl ⟨SqL.of hD1, fun l hl2 => ?_⟩⟩
          exact q' _ _ ⟨l, rs', rfl, upd_same, IsTs.same ((Same.refl _).new hl2) _ _ hl1, af, s2.new hl2⟩
      rintro v H2 ⟨d, rs', rfl, hd, hl2, af, s2⟩
      have l2 := hl2.len
      rw [List.length_map] at l2
      have each : ∀ u ∈ t.ins.map (Ty.put a o), u.Fits := fun u hu => by
        obtain ⟨z, hz, rfl⟩ := List.mem_map.mp hu
        exact af z hz
      refine ⟨.ref b, rfl, b, C_Type, dx, _, .str t.atom, rfl, s2 _ _ hb, T.k_Type, T.x_Type.n_atom, rfl, .str a, rfl, rfl, _, rfl, ite2 (fun c => ?_) (fun c => ?_)⟩
      · have e : t.atom = a := V.str.inj (of_decide_eq_true c)
        rw [Ty.put_eq, if_pos e] at q qE
        have parts : Parts (t.ins.map (Ty.put a o) ++ o.ins) o.atom := ⟨fun u hu => (List.mem_append.mp hu).elim (each u) fun z => fo'.ins z, by rw [List.length_append, List.length_map]; omega, fo'.words _ (by rw [Ty.places]; exact List.mem_append_right _ (List.mem_singleton.mpr rfl))⟩
        refine ⟨.ref d, rfl, .ref bo, rfl, bo, dxo, _, rfl, s2 _ _ hbo, bo, dxo, _, .ref po, rfl, s2 _ _ hbo, rfl, d, po, rs', rso, rfl, rfl, SqT.of hd, SqT.of (s2 _ _ hpo), lt_line (by omega), fun e0 => ?_, fun _ e0 => ?_, fun _ _ p1 hp1 => ?_⟩
        · refine ⟨.ref bo, rfl, bo, dxo, _, rfl, s2 _ _ hbo, bo, dxo, _, .str o.atom, rfl, s2 _ _ hbo, rfl, ?_⟩
          have h9 := hl2.app (IsTs.same s2 _ _ hlo)
          rw [e0, List.nil_append] at h9
          exact make_tyX (s2 _ _ hpo) h9 parts (fun fit x H' s h => q fit x H' (s2.trans s) h) fun no H' s => qE no H' (s2.trans s)
        · refine ⟨.ref bo, rfl, bo, dxo, _, rfl, s2 _ _ hbo, bo, dxo, _, .str o.atom, rfl, s2 _ _ hbo, rfl, ?_⟩
          have h9 := hl2.app (IsTs.same s2 _ _ hlo)
          rw [e0, List.append_nil] at h9
          exact make_tyX hd h9 parts (fun fit x H' s h => q fit x H' (s2.trans s) h) fun no H' s => qE no H' (s2.trans s)
        · have s3 := s2.new (o := .tup (rs' ++ rso)) hp1
          have s23 : Same H2 (upd H2 p1 (.tup (rs' ++ rso))) := (Same.refl H2).new hp1
          refine ⟨.ref bo, rfl, bo, dxo, _, rfl, s3 _ _ hbo, bo, dxo, _, .str o.atom, rfl, s3 _ _ hbo, rfl, ?_⟩
          exact make_tyX upd_same ((IsTs.same s23 _ _ hl2).app (IsTs.same s3 _ _ hlo)) parts (fun fit x H' s h => q fit x H' (s3.trans s) h) fun no H' s => qE no H' (s3.trans s)
      · have e : ¬ t.atom = a := fun z => c (decide_eq_true (congrArg V.str z))
        rw [Ty.put_eq, if_neg e] at q qE
        refine nx_go ?_
        dsimp only
        have parts : Parts (t.ins.map (Ty.put a o)) t.atom := ⟨each, by rw [List.length_map]; omega, ft'.words _ (by rw [Ty.places]; exact List.mem_append_right _ (List.mem_singleton.mpr rfl))⟩
        exact ⟨.ref d, rfl, .ref b, rfl, b, C_Type, dx, _, .str t.atom, rfl, s2 _ _ hb, T.k_Type, T.x_Type.n_atom, rfl, make_tyX hd hl2 parts (fun fit x H' s h => q fit x H' (s2.trans s) h) fun no H' s => qE no H' (s2.trans s)⟩
end


end My
namespace My
open PySem PySem.Spec PyProof.Rows L2 TL
set_option pp.maxSteps 3000
set_option pp.deepTerms false
section
variable {P : Program} {w : World} {K : PySem.W.Frag} {mg : Str → Option Value} {base : Heap} {C_Type : Addr}
theorem ok_Type_plain (T : Txt K mg C_Type) (i_Type___init__ : MakC P w K mg base C_Type 4 ["self", "inputs", "atom"] (sp_Type___init__ K C_Type)) {f : Addr} {fd : FuncData} (F : Fun K "plain" "Type.plain" s_Type_plain f fd) : FnOk P w K mg base CX0 6 f fd ["cls", "atom"] (sp_Type_plain K C_Type) := by
  have nd := sc_Type_plain.nd
  refine F.ok sc_Type_plain (fun vs H Q E h => ?_) (fun cdv A outer s H vs Q E hr h => ?_)
  · obtain ⟨a, rfl, _⟩ := h
    rfl
  · obtain ⟨a, rfl, fit, q⟩ := h
    refine ⟨_, (pss_one (ps_ret (pe_makeV i_Type___init__ (hr.mono (by first | decide | omega)) (pv 0) (pa_cons (pe_tup pa_nil) (pa_cons (pv 1) pa_nil))))), ?_⟩
    refine ⟨_, rfl, rfl, Nat.zero_le _, fun p hp => ?_⟩
    refine ⟨.str a, rfl, make_ty upd_same IsTs.nil fit fun x H' s h => q x H' (((Same.refl H).new hp).trans s) h⟩
end


end My
namespace My
open PySem PySem.Spec PyProof.Rows L2 TL
set_option pp.maxSteps 3000
set_option pp.deepTerms false
/-! ### a dict comprehension whose parts speak of the place where they stand -/
section
variable {X : Cx}
theorem pe_dcD {kx vx tg iter : Expr} {ifs : List Expr} {scope : Scope} {own : List (Str × Nat)} {pos : Pos} {wi : TI} {g : Dep TG} {tt : Dep TT} {tk tv : Dep TE} (hc : X.calm = true) (hN : X.N.Nodup) (hi : PI X tg iter wi) (ok : BlkOk X.N X.env.scope scope own)
    (hg : ∀ (s : Shared) (H : Hp) (C : Addr) (cl : List (Str × Addr)) (fp : List Addr), PG (X.blk s H scope (compEnvC scope cl C X.env) fp) tg (g s H C cl fp)) (ht : ∀ (s : Shared) (H : Hp) (C : Addr) (cl : List (Str × Addr)) (fp : List Addr), PTs (X.blk s H scope (compEnvC scope cl C X.env) fp) ifs (tt s H C cl fp))
    (hk : ∀ (s : Shared) (H : Hp) (C : Addr) (cl : List (Str × Addr)) (fp : List Addr), PE (X.blk s H scope (compEnvC scope cl C X.env) fp) kx (tk s H C cl fp))
    (he : ∀ (s : Shared) (H : Hp) (C : Addr) (cl : List (Str × Addr)) (fp : List Addr), PE (X.blk s H scope (compEnvC scope cl C X.env) fp) vx (tv s H C cl fp)) (hs : ∀ x, foldedSetIterable iter X.env x = pure x := by intro _; rfl)
    (eg : ∀ s H C cl fp, g s H C cl fp = g.at X := by intros; rfl) (et : ∀ s H C cl fp, tt s H C cl fp = tt.at X := by intros; rfl) (ek : ∀ s H C cl fp, tk s H C cl fp = tk.at X := by intros; rfl) (ev : ∀ s H C cl fp, tv s H C cl fp = tv.at X := by intros; rfl) :
    PE X (.DictComp kx vx [⟨tg, iter, ifs, 0⟩] scope pos) (tDc wi (g.at X) (tt.at X) (tk.at X) (tv.at X) (own.map (·.2))) :=
  pe_dc hc hN hi ok (fun s H C cl fp => eg s H C cl fp ▸ hg s H C cl fp) (fun s H C cl fp => et s H C cl fp ▸ ht s H C cl fp) (fun s H C cl fp => ek s H C cl fp ▸ hk s H C cl fp) (fun s H C cl fp => ev s H C cl fp ▸ he s H C cl fp) hs
end

/-! ### _kept: an equal value that does not change -/
section
variable {P : Program} {w : World} {K : PySem.W.Frag} {mg : Str → Option Value} {base : Heap} {C_Type : Addr}
theorem ok__kept (T : Txt K mg C_Type) {f : Addr} {fd : FuncData} (F : Fun K "_kept" "_kept" s__kept f fd) (M : mg "_kept" = some (.ref f)) (B : Binds K fd ["value"] []) : ∀ n : Nat, FnOk P w K mg base CX0 (1 + n) f fd ["value"] (spr__kept n K)
 := by
  have nd := sc__kept.nd
  have step : ∀ (k n : Nat) (sp' : Sp), FnOk P w K mg base CX0 k f fd ["value"] sp' → (∀ v d H Q, d.depth + 1 ≤ n → DyE (fun _ => True) H v d → (∀ w H', Same H H' → DyE (fun a => H a = none) H' w d → Q w H') → sp' [v] H Q E0) → FnOk P w K mg base CX0 (k + 1) f fd ["value"] (spr__kept n K) := fun k n sp' ih use => by
    have C_self : CalN P w K mg base "_kept" k ["value"] sp' := ⟨f, fd, ih, M, F.kp, B⟩
    refine F.ok (k := k) sc__kept (fun vs H Q E h => ?_) (fun cdv A outer s H vs Q E hr h => ?_)
    · obtain ⟨v, d, rfl, _⟩ := h
      rfl
    · obtain ⟨v, d, rfl, hd, dn, q⟩ := h
      refine ⟨_, (pss_cons (ps_if (pt_val (pe_callB call_isi (by rfl) T.b_isinstance (by decide +kernel) (pa_cons (pv 0) (pa_cons (pe_bltn (v := .ty "list") (u := .type "list") (by rfl) T.b_list (by decide +kernel) rfl) pa_nil)))) (pss_one (ps_ret (pe_lcD (own := [("one", 1)]) (by rfl) nd (pi_list (pv 0)) (blkOk_by (own := [("one", 1)]) (N := ["value", "one", "name"]) (sc := (defScope s__kept)) (by decide +kernel)) (fun _ _ _ _ _ => pg_name (i := 1) nd rfl (Or.inl rfl)) (fun _ _ _ _ _ => pts_nil) (fun _ _ _ _ _ => (pe_callN C_self (hr.mono (by first | decide | omega)) rfl (pa_cons (pv 1) pa_nil)))))) pss_nil)
      (pss_cons (ps_if (pt_val (pe_callB call_isi (by rfl) T.b_isinstance (by decide +kernel) (pa_cons (pv 0) (pa_cons (pe_bltn (v := .ty "tuple") (u := .type "tuple") (by rfl) T.b_tuple (by decide +kernel) rfl) pa_nil)))) (pss_one (ps_ret (pe_callTy call_tuple_of (by rfl) T.b_tuple (by decide +kernel) (pa_cons (pe_lcD (own := [("one", 1)]) (by rfl) nd (pi_tup (pv 0)) (blkOk_by (own := [("one", 1)]) (N := ["value", "one", "name"]) (sc := (defScope s__kept)) (by decide +kernel)) (fun _ _ _ _ _ => pg_name (i := 1) nd rfl (Or.inl rfl)) (fun _ _ _ _ _ => pts_nil) (fun _ _ _ _ _ => (pe_callN C_self (hr.mono (by first | decide | omega)) rfl (pa_cons (pv 1) pa_nil)))) pa_nil)))) pss_nil)
      (pss_cons (ps_if (pt_val (pe_callB call_isi (by rfl) T.b_isinstance (by decide +kernel) (pa_cons (pv 0) (pa_cons (pe_bltn (v := .ty "dict") (u := .type "dict") (by rfl) T.b_dict (by decide +kernel) rfl) pa_nil)))) (pss_one (ps_ret (pe_lock (pe_dcD (own := [("name", 2)]) (by rfl) nd (pi_keys (pv 0)) (blkOk_by (own := [("name", 2)]) (N := ["value", "one", "name"]) (sc := (defScope s__kept)) (by decide +kernel)) (fun _ _ _ _ _ => pg_name (i := 2) nd rfl (Or.inl rfl)) (fun _ _ _ _ _ => pts_nil) (fun _ _ _ _ _ => (pv 2)) (fun _ _ _ _ _ => (pe_callN C_self (hr.mono (by first | decide | omega)) rfl (pa_cons (pe_dget (by first | exact Nat.lt_of_le_of_lt (Nat.add_le_add_left (by decide : 1 ≤ 64) _) hr.units | exact Nat.lt_of_le_of_lt (Nat.add_le_add_left (by decide : 4 ≤ 64) _) hr.units | exact Nat.lt_of_le_of_lt (Nat.add_le_add_left (by decide : 7 ≤ 64) _) hr.units) (pv 0) (pv 2) (fun _ _ => rfl)) pa_nil))))))) pss_nil)
      (pss_one (ps_ret (pv 0)))))), ?_⟩
      rcases hd with hd | ⟨a, rfl, _, h1, rfl⟩
      · cases hd with
        | non =>
          refine ⟨.non, rfl, .non, .ty "list", .type "NoneType", .type "list", false, rfl, .ty _, .base .non, kit_ty (by decide +kernel), false, rfl, iteF (nx_go ?_)⟩
          dsimp only
          refine ⟨.non, rfl, .non, .ty "tuple", .type "NoneType", .type "tuple", false, rfl, .ty _, .base .non, kit_ty (by decide +kernel), false, rfl, iteF (nx_go ?_)⟩
          dsimp only
          refine ⟨.non, rfl, .non, .ty "dict", .type "NoneType", .type "dict", false, rfl, .ty _, .base .non, kit_ty (by decide +kernel), false, rfl, iteF (nx_go ?_)⟩
          dsimp only
          exact ⟨.non, rfl, q _ H (Same.refl H) (.inl (.non))⟩
        | bl b =>
          refine ⟨.bl b, rfl, .bl b, .ty "list", .type "bool", .type "list", false, rfl, .ty _, .base (.bl b), kit_ty (by decide +kernel), false, rfl, iteF (nx_go ?_)⟩
          dsimp only
          refine ⟨.bl b, rfl, .bl b, .ty "tuple", .type "bool", .type "tuple", false, rfl, .ty _, .base (.bl b), kit_ty (by decide +kernel), false, rfl, iteF (nx_go ?_)⟩
          dsimp only
          refine ⟨.bl b, rfl, .bl b, .ty "dict", .type "bool", .type "dict", false, rfl, .ty _, .base (.bl b), kit_ty (by decide +kernel), false, rfl, iteF (nx_go ?_)⟩
          dsimp only
          exact ⟨.bl b, rfl, q _ H (Same.refl H) (.inl (.bl b))⟩
        | int i =>
          refine ⟨.int i, rfl, .int i, .ty "list", .type "int", .type "list", false, rfl, .ty _, .base (.int i), kit_ty (by decide +kernel), false, rfl, iteF (nx_go ?_)⟩
          dsimp only
          refine ⟨.int i, rfl, .int i, .ty "tuple", .type "int", .type "tuple", false, rfl, .ty _, .base (.int i), kit_ty (by decide +kernel), false, rfl, iteF (nx_go ?_)⟩
          dsimp only
          refine ⟨.int i, rfl, .int i, .ty "dict", .type "int", .type "dict", false, rfl, .ty _, .base (.int i), kit_ty (by decide +kernel), false, rfl, iteF (nx_go ?_)⟩
          dsimp only
          exact ⟨.int i, rfl, q _ H (Same.refl H) (.inl (.int i))⟩
        | str x =>
          refine ⟨.str x, rfl, .str x, .ty "list", .type "str", .type "list", false, rfl, .ty _, .base (.str x), kit_ty (by decide +kernel), false, rfl, iteF (nx_go ?_)⟩
          dsimp only
          refine ⟨.str x, rfl, .str x, .ty "tuple", .type "str", .type "tuple", false, rfl, .ty _, .base (.str x), kit_ty (by decide +kernel), false, rfl, iteF (nx_go ?_)⟩
          dsimp only
          refine ⟨.str x, rfl, .str x, .ty "dict", .type "str", .type "dict", false, rfl, .ty _, .base (.str x), kit_ty (by decide +kernel), false, rfl, iteF (nx_go ?_)⟩
          dsimp only
          exact ⟨.str x, rfl, q _ H (Same.refl H) (.inl (.str x))⟩
        | @lst a xs ds len _ hl r =>
          refine ⟨.ref a, rfl, .ref a, .ty "list", .type "list", .type "list", true, rfl, .ty _, .base (.lst hl), kit_ty (by decide +kernel), true, rfl, iteT ?_⟩
          refine ⟨.ref a, rfl, a, rfl, ⟨_, SqL.of hl⟩, fun D hD => lc_list (xs := xs) (fun i H' => ∃ ys, H' D = some (.lst ys) ∧ DwAll (fun b => H b = none ∧ b ≠ D) H' ys (ds.take i) ∧ Same H H') ⟨[], upd_same, .nil, (Same.refl H).mut hD⟩ (fun i H' _ hP => by obtain ⟨_, _, _, s⟩ := hP; exact SqL.of (s _ _ hl)) (fun i y H' hy hP => ?_) (fun H' hP => ?_)⟩
          · obtain ⟨ys, h1, h2, s1⟩ := hP
            obtain ⟨dj, ed, hj⟩ := r.get hy
            have li := lt_of_get hy
            have ly := h2.len
            have ll := r.len
            rw [List.length_take] at ly
            refine ⟨rfl, tyes ?_⟩
            refine ⟨y, rfl, use y dj H' _ (by have := depth_mem ed; simp only [PyData.depth] at dn; omega) (.inl (hj.keep (fun a o _ e => s1 a o e) fun _ _ _ x => x)) fun w H2 s2 hw => ?_⟩
            have hw : Dw (fun a => H' a = none) H2 w dj := by
              rcases hw with hw | ⟨_, _, _, _, rfl⟩
              · exact hw
              · have := hj.flat
                simp only [PyData.hasDict] at this
                cases this
            refine ⟨ys, s2 _ _ h1, lt_line' (by omega), ys ++ [w], upd_same, ?_, (s1.trans s2).mut hD⟩
            rw [take_next ed]
            have off : ∀ {b}, H b = none → b ≠ D → True := fun _ _ => trivial
            refine (h2.keep (fun b o hb e => ?_) fun _ _ _ x => x).snoc (hw.keep (fun b o hb e => ?_) fun b o _ hb => ⟨?_, ?_⟩)
            · rw [upd_ne hb.2]
              exact s2 _ _ e
            · rw [upd_ne (fun z => by rw [z, h1] at hb; cases hb)]
              exact e
            · cases e : H b with
              | none => rfl
              | some u => rw [s1 _ _ e] at hb; cases hb
            · exact fun z => by rw [z, h1] at hb; cases hb
          · obtain ⟨ys, h1, h2, s1⟩ := hP
            have ly := h2.len
            have ll := r.len
            rw [ll, List.take_length] at h2 ly
            exact q (.ref D) H' s1 (.inl (.lst (by omega) hD h1 (h2.keep (fun _ _ _ e => e) fun _ _ _ x => x.1)))
        | @tup a xs ds len _ hl r =>
          refine ⟨.ref a, rfl, .ref a, .ty "list", .type "tuple", .type "list", false, rfl, .ty _, .base (.tup hl), kit_ty (by decide +kernel), false, rfl, iteF (nx_go ?_)⟩
          dsimp only
          refine ⟨.ref a, rfl, .ref a, .ty "tuple", .type "tuple", .type "tuple", true, rfl, .ty _, .base (.tup hl), kit_ty (by decide +kernel), true, rfl, iteT ?_⟩
          refine ⟨.ref a, rfl, a, rfl, ⟨_, SqT.of hl⟩, fun D hD => lc_tup (xs := xs) (fun i H' => ∃ ys, H' D = some (.lst ys) ∧ DwAll (fun b => H b = none ∧ b ≠ D) H' ys (ds.take i) ∧ Same H H') ⟨[], upd_same, .nil, (Same.refl H).mut hD⟩ (fun i H' _ hP => by obtain ⟨_, _, _, s⟩ := hP; exact SqT.of (s _ _ hl)) (fun i y H' hy hP => ?_) (fun H' hP => ?_)⟩
          · obtain ⟨ys, h1, h2, s1⟩ := hP
            obtain ⟨dj, ed, hj⟩ := r.get hy
            have li := lt_of_get hy
            have ly := h2.len
            have ll := r.len
            rw [List.length_take] at ly
            refine ⟨rfl, tyes ?_⟩
            refine ⟨y, rfl, use y dj H' _ (by have := depth_mem ed; simp only [PyData.depth] at dn; omega) (.inl (hj.keep (fun a o _ e => s1 a o e) fun _ _ _ x => x)) fun w H2 s2 hw => ?_⟩
            have hw : Dw (fun a => H' a = none) H2 w dj := by
              rcases hw with hw | ⟨_, _, _, _, rfl⟩
              · exact hw
              · have := hj.flat
                simp only [PyData.hasDict] at this
                cases this
            refine ⟨ys, s2 _ _ h1, lt_line' (by omega), ys ++ [w], upd_same, ?_, (s1.trans s2).mut hD⟩
            rw [take_next ed]
            have off : ∀ {b}, H b = none → b ≠ D → True := fun _ _ => trivial
            refine (h2.keep (fun b o hb e => ?_) fun _ _ _ x => x).snoc (hw.keep (fun b o hb e => ?_) fun b o _ hb => ⟨?_, ?_⟩)
            · rw [upd_ne hb.2]
              exact s2 _ _ e
            · rw [upd_ne (fun z => by rw [z, h1] at hb; cases hb)]
              exact e
            · cases e : H b with
              | none => rfl
              | some u => rw [s1 _ _ e] at hb; cases hb
            · exact fun z => by rw [z, h1] at hb; cases hb
          · obtain ⟨ys, h1, h2, s1⟩ := hP
            have ly := h2.len
            have ll := r.len
            rw [ll, List.take_length] at h2 ly
            refine ⟨D, ys, rfl, .inl ⟨SqL.of h1, fun l hl' => ?_⟩⟩
            have s2 := s1.new (o := .tup ys) hl'
            exact q (.ref l) _ s2 (.inl (.tup (by omega) (s1.free hl') upd_same (h2.keep (fun b o hb e => by rw [upd_ne (ne_of_none e hl')]; exact e) fun _ _ _ x => x.1)))
      · 
        refine ⟨.ref a, rfl, .ref a, .ty "list", .type "dict", .type "list", false, rfl, .ty _, .base (.dK h1), kit_ty (by decide +kernel), false, rfl, iteF (nx_go ?_)⟩
        dsimp only
        refine ⟨.ref a, rfl, .ref a, .ty "tuple", .type "dict", .type "tuple", false, rfl, .ty _, .base (.dK h1), kit_ty (by decide +kernel), false, rfl, iteF (nx_go ?_)⟩
        dsimp only
        refine ⟨.ref a, rfl, .ref a, .ty "dict", .type "dict", .type "dict", true, rfl, .ty _, .base (.dK h1), kit_ty (by decide +kernel), true, rfl, iteT ?_⟩
        refine ⟨a, _, h1, trivial, fun od => ?_⟩
        have f1 : upd H a (.frz od (.dK [])) a = some (.frz od (.dK [])) := upd_same
        have fo : ∀ b o, b ≠ a → H b = some o → upd H a (.frz od (.dK [])) b = some o := fun b o n e => (upd_ne n).trans e
        have fn : ∀ b, upd H a (.frz od (.dK [])) b = none → H b = none := fun b e => by
          by_cases z : b = a
          · rw [z, upd_same] at e; cases e
          · rw [upd_ne z] at e; exact e
        generalize upd H a (.frz od (.dK [])) = G at f1 fo fn ⊢
        refine ⟨.ref a, rfl, a, od, rfl, .inl ⟨_, f1, fun D hD => dc_keys (kvs := []) (fun i H' => H' D = some (.dK []) ∧ Same G H') ⟨upd_same, (Same.refl G).mut hD⟩ (fun i H' _ hP => hP.2 _ _ f1) (fun i k v H' hy hP => ?_) (fun H' hP => ?_)⟩⟩
        · cases hy
        · obtain ⟨hD1, s1⟩ := hP
          have na : D ≠ a := fun e => by rw [e, f1] at hD; cases hD
          refine ⟨s1 _ _ f1, q (.ref D) _ (fun b o e => ?_) (.inr ⟨D, rfl, fn _ hD, (upd_ne na).trans hD1, rfl⟩)⟩
          by_cases z : b = a
          · rw [z, h1] at e
            cases e
            rw [z, upd_same]
          · rw [upd_ne z]
            exact s1 _ _ (fo _ _ z e)
  intro n
  induction n with
  | zero => exact step 0 0 (fun _ _ _ _ => False) ⟨fun _ _ _ _ h => h.elim, fun _ _ _ _ _ _ _ _ _ _ _ _ _ h => h.elim⟩ fun _ d _ _ h => absurd h (by omega)
  | succ n ih => 
    have z := step (1 + n) (n + 1) (spr__kept n K) ih fun v d H Q hd hv q => ⟨v, d, rfl, hv, by omega, q⟩
    rw [show 1 + (n + 1) = 1 + n + 1 by omega]
    exact z
end


end My
namespace My
open PySem PySem.Spec PyProof.Rows L2 TL
set_option pp.maxSteps 3000
set_option pp.deepTerms false
/-! ### InvalidNumber(at), x[at] refused -/
def sp_Type_getO (K : PySem.W.Frag) (C CN : Addr) : Sp := fun vs H _ E => ∃ v u, ∃ t : Ty, ∃ d : PyData, vs = [v, u] ∧ IsT C H t v ∧ t.ins.length ≤ 1000 ∧ (∀ H', Same H H' → ValI7 K H' u) ∧ (isI7 u = false ∨ ∃ i : Int, u = .int i ∧ isI7 u = true ∧ (i < 0 ∨ (t.ins.length : Int) ≤ i)) ∧
  DyE (fun _ => True) H u d ∧ GoodD d ∧ ∀ dx H', ErrV "number" H H' dx d → E (.ref CN) (some dx) H'
section
variable {P : Program} {w : World} {K : PySem.W.Frag} {mg : Str → Option Value} {base : Heap} {C_Type CN fN : Addr}
theorem ok_num7 (T : Txt K mg C_Type) (e : ErrE K mg "InvalidNumber" CN fN "RuntimeError.__init__" "number") (bR : mg "RuntimeError" = none) (vR : PySem.W.findCls K (.type "RuntimeError") (.type "type") "__init__" = some (.val (.builtin "RuntimeError.__init__"))) (c__kept : CalN P w K mg base "_kept" 6 ["value"] (sp__kept K))
    {f : Addr} {fd : FuncData} (F : Fun K "__init__" "InvalidNumber.__init__" s_InvalidNumber___init__ f fd) : FnOkG P w K mg base CX0 7 f fd ["self", "number"] (sp_errE CN "number") := by
  have nd := sc_InvalidNumber___init__.nd
  refine F.okG sc_InvalidNumber___init__ (fun vs H Q E h => ?_) (fun cdv A outer s H vs Q E hr hG h => ?_)
  · obtain ⟨a, v, d, rfl, _⟩ := h
    rfl
  · obtain ⟨a, v, d, rfl, ha, hd, ⟨g1, g2, g3⟩, q⟩ := h
    refine ⟨_, (pss_cons (ps_expr (pe_exI (pe_bltn (v := .ty "RuntimeError") (u := .type "RuntimeError") (by rfl) bR (by decide +kernel) rfl) (by kernel_rfl) (by decide +kernel) vR (by decide +kernel) (pa_cons (pv 0) (pa_cons (pe_joined (PJ.cons pe_str (PJ.cons (pe_fmtE hG hr.units (pv 1)) PJ.nil))) pa_nil))))
      (pss_one (ps_osb (pv 0) (pe_callN c__kept (hr.mono (by first | decide | omega)) rfl (pa_cons (pv 1) pa_nil))))), ?_⟩
    refine ⟨.ref a, rfl, _, rfl, by decide +kernel, v, rfl, d, hd.dz, g1, by omega, Nat.le_trans g3 (by decide), d.shown, rfl, ?_, a, CN, [.str _], rfl, (by show 1 ≤ 1000; decide), e.o, ha, ?_⟩
    · rw [PySem.Str.length_append]
      refine Nat.le_trans (Nat.add_le_add (Nat.le_refl _) g3) (by decide +kernel)
    refine ⟨v, rfl, v, d, rfl, hd, g2, fun w H1 s1 hw => ⟨.ref a, rfl, a, CN, _, rfl, e.o, e.fld, s1 _ _ ha, fun dx hdx ne => ?_⟩⟩
    have h1 := s1 _ _ ha
    have na : ∀ b, H b = none → b ≠ a := fun b e z => by rw [z, ha] at e; cases e
    have hd0 : H dx = none := by
      cases z : H dx with
      | none => rfl
      | some o => rw [s1 _ _ z] at hdx; cases hdx
    refine q w dx _ (fun b o nb e => ?_) upd_same ?_ hd0 ne (hw.keep (fun b o hb e => ?_) fun b o e hb => ⟨hb, ne_of_none e hdx⟩)
    · rw [upd_ne nb, upd_ne (ne_of_none (s1 _ _ e) hdx)]
      exact s1 _ _ e
    · rw [upd_ne ne, upd_same]
    · rw [upd_ne (na b hb), upd_ne (ne_of_none e hdx)]
      exact e
theorem ok_Type_getO (T : Txt K mg C_Type) (e : ErrE K mg "InvalidNumber" CN fN "RuntimeError.__init__" "number") {fdI : FuncData} (F1 : FnOkG P w K mg base CX0 7 fN fdI ["self", "number"] (sp_errE CN "number")) (bI : Binds K fdI ["self", "number"] [])
    (c_is_integer : CalN P w K mg base "is_integer" 1 ["value"] (sp_int7 K)) {f : Addr} {fd : FuncData} (F : Fun K "__getitem__" "Type.__getitem__" s_Type___getitem__ f fd) : FnOkG P w K mg base (L2.CX P w) 9 f fd ["self", "at"] (sp_Type_getO K C_Type CN) := by
  have nd := sc_Type___getitem__.nd
  refine F.okGX sc_Type___getitem__ (fun vs H Q E h => ?_) (fun cdv A outer s H vs Q E hr hG h => ?_)
  · obtain ⟨v, u, t, d, rfl, _⟩ := h
    rfl
  · obtain ⟨v, u, t, d, rfl, ht, len, hu, alt, hd, gd, q⟩ := h
    refine ⟨_, (pss_cons (ps_if (PW.pt (pw_or (pt_not (pt_val (pe_callN c_is_integer (hr.mono (by first | decide | omega)) rfl (pa_cons (pv 1) pa_nil)))) (pw_or1 (pt_not (pt_chain op_le op_lt pe_int (pv 1) (pe_callB call_len (by rfl) T.b_len (by decide +kernel) (pa_cons (pe_fld (pv 0) rfl) pa_nil))))))) (pss_one (ps_raiseE (x := "InvalidNumber") e F1 hr hG bI rfl (takes_of rfl rfl rfl rfl) (by rfl) (pa_cons (pv 1) pa_nil))) pss_nil)
      (pss_one ps_never)), ?_⟩
    have fin : ∀ H1, Same H H1 → ([u] : List V).length ≤ 1000 ∧ ∀ a, H1 a = none → sp_errE CN "number" (.ref a :: ([u] ++ [])) (upd H1 a (exo a CN none))
      (fun v H2 => v = .non ∧ ∃ (d : Addr) (fs : List (Str × V)), H2 a = some (exo a CN (some d)) ∧ H2 d = some (exd d fs) ∧ H1 d = none ∧ E (.ref CN) (some d) (upd (del H2 a) d (.xd fs))) (fun _ _ _ => False) :=
      fun H1 s1 => errE_use (hd.same s1) gd fun dx H' k => q dx H' (k.from s1)
    refine ⟨u, rfl, u, rfl, hu H (Same.refl H), fun H1 s1 => ⟨_, rfl, ?_⟩⟩
    rcases alt with no | ⟨i, rfl, yes, out⟩
    · rw [no]
      exact iteT (iteT ⟨u, rfl, fin H1 s1⟩)
    · rw [yes]
      obtain ⟨b, dx, p, q', rs, rfl, hb, hp, hl, _⟩ := (IsT.same s1 t v ht).at
      have lr := hl.len
      refine iteF ⟨.int i, rfl, 0, i, rfl, rfl, _, rfl, ite2 (fun c => ?_) (fun c => ?_)⟩
      · have c : 0 ≤ i := of_decide_eq_true c
        have d : decide (i < (rs.length : Int)) = false := decide_eq_false (by omega)
        refine ⟨.ref b, rfl, b, C_Type, dx, _, .ref p, rfl, hb, T.k_Type, T.x_Type.n_inputs, rfl, .ref p, rs.length, rfl, .inr ⟨rs, SqT.of hp, rfl⟩, i, (rs.length : Int), rfl, rfl, _, rfl, ?_⟩
        rw [d]
        exact iteT ⟨_, rfl, fin H1 s1⟩
      · exact ⟨false, rfl, iteT ⟨_, rfl, fin H1 s1⟩⟩
end


end My
namespace My
open PySem PySem.Spec PyProof.Rows L2 TL
/-! ### x op y, x an instance, y of a built-in type -/
structure OwnA (K : PySem.W.Frag) (C : Addr) (op : Operator) : Prop where
  first : PySem.W.selfFirst K C = true
  rev : ∃ rc, PySem.W.findIn K (.ref C) (PySem.dunderR op.info.2) = some rc ∧ (rc = none ∨ ∃ g : Addr, rc = some (.ref g))
  t : ∀ T ∈ ["NoneType", "int", "bool", "str", "list", "tuple", "dict"], ∃ fo ro, PySem.W.findIn K (.type T) (PySem.dunder op.info.2) = some fo ∧ PySem.W.findIn K (.type T) (PySem.dunderR op.info.2) = some ro ∧ PySem.W.subIn K (.type T) (.ref C) = some false
def rOwnA (K : PySem.W.Frag) (C : Addr) (sp : Sp) (E : XK) : R2 := fun x y H Q => ∃ a dx fs T, x = .ref a ∧ H a = some (.ins C dx fs) ∧ T ∈ ["NoneType", "int", "bool", "str", "list", "tuple", "dict"] ∧ TyX K H y (.type T) ∧ sp [x, y] H Q E
section
variable {X : Cx} {k : Nat} {f C : Addr} {ps : List Str} {sp : Sp} {E : XK} {m : Str}
theorem op_leftA {op : Operator} (c : MetX X.prog X.w X.K X.mg X.base C m k ps sp) (room : Room k X.A) (O : OwnA X.K C op) (pass : Passes (L2.CX X.prog X.w) X E) (name : PySem.dunder op.info.2 = m := by rfl) : OpR X (binaryOp op) (rOwnA X.K C sp E) := by
  obtain ⟨f, fd, ok, M, hb⟩ := c.ex
  intro pins s σ H x y u v Q I rx ry h
  obtain ⟨a, dx, fs, T, rfl, ha, mem, ty, q⟩ := h
  cases rx
  obtain ⟨od, J⟩ := inst_at I ha
  obtain ⟨first, ⟨rc, r1, r2⟩, all⟩ := O
  obtain ⟨fo, ro, i1, i2, sub⟩ := all T mem
  obtain ⟨Ph, Z, p, _⟩ := kit_of I ry ty
  have kn := I.kIn
  have ran := Runs.of ok room hb pass pins σ H s Q [.ref a, v] [.ref a, y] I (.cons rfl (.cons ry .nil)) q
  have called := PySem.W.ksp_try kn J (name ▸ M.at_) M.fn (wpAny_mono ran (fun _ _ z => ep_back z) fun _ _ z => z)
  have tb := Z.ty (model X.prog X.w) _ kn p
  obtain ⟨cd, rest, hcd, hm⟩ := PySem.W.ksp_first first
  have left := PySem.W.fills_K (M := model X.prog X.w) kn hcd hm (name ▸ M.at_)
  have right := PySem.W.ksp_fillsT (M := model X.prog X.w) kn i1 i2
  have notSub := PySem.W.looks_subIn (M := model X.prog X.w) kn sub
  have inPy := PySem.W.ksp_inPy (M := model X.prog X.w) (nm := op.info.2) kn (name ▸ M.at_) r1 r2
  have notPy : PySem.W.Looks (model X.prog X.w) s.heap (numberSlotInPython (.type T) op.info.2) false := PySem.W.Looks.of_pure rfl
  have back := PySem.W.looks_findIn (M := model X.prog X.w) kn i2
  have ta : PySem.W.Looks (model X.prog X.w) s.heap (typeOf (.ref a)) (.ref C) := J.type
  subst name
  rcases hi : op.info with ⟨sym, nm⟩
  rw [hi] at left right inPy notPy back called
  dsimp only at left right inPy notPy back called
  obtain ⟨hp, g, d, tk, os⟩ := s
  generalize ((fo.isSome && !isSeqSlot fo) || (ro.isSome && !isSeqSlot ro)) = b at right
  have apart : (Value.ref C == Value.type T) = false := Bool.eq_false_iff.mpr fun z => by cases beq_iff_eq.mp z
  unfold binaryOp
  rw [hi]
  unfold binaryOp1
  refine wpAny_holding (wpAny_bind (wpAny_bind (ta.at (wpAny_bind (tb.at (wpAny_bind (left.at ?_)))))))
  rw [apart]
  cases b
  all_goals
    simp only [Bool.false_eq_true, if_false]
    ksp_lk
    refine wpAny_mono called (fun r s2 z => ?_) fun _ _ z => z
    obtain ⟨w, rfl, z⟩ := z
    ksp_lk
    exact z
end


end My
namespace My
open PySem PySem.Spec PyProof.Rows L2 TL
set_option pp.maxSteps 3000
set_option pp.deepTerms false
/-! ### renaming -/
/-- the dict of names at d: from words to words -/
def IsN (H : Hp) (d : Addr) (ws : List (Str × Str)) : Prop := H d = some (.dK (ws.map fun p => ((Sum.inr p.1 : Key), V.str p.2)))
def look (ws : List (Str × Str)) (x : Str) : Option Str := (ws.find? fun p => decide (p.1 = x)).map (·.2)
theorem valV_look (x : Str) : ∀ ws : List (Str × Str), valV (ws.map fun p => ((Sum.inr p.1 : Key), V.str p.2)) (Sum.inr x) = (look ws x).map V.str
  | [] => rfl
  | (k, v) :: r => by
    rw [List.map_cons]
    by_cases e : k = x
    · rw [valV_pos (by rw [e]), look, List.find?_cons_of_pos (by simpa using e)]
      rfl
    · rw [valV_neg (fun z => e (Sum.inr.inj z)), valV_look x r, look, look, List.find?_cons_of_neg (by simpa using e)]
namespace Ty
mutual
def ren (f : Str → Str) : Ty → Ty
  | .mk l b => .mk (renL f l) (f b)
def renL (f : Str → Str) : List Ty → List Ty
  | [] => []
  | t :: r => ren f t :: renL f r
end
theorem renL_map (f : Str → Str) : ∀ l : List Ty, renL f l = l.map (ren f)
  | [] => by rw [renL]; rfl
  | t :: r => by rw [renL, renL_map f r]; rfl
theorem ren_eq (f : Str → Str) (t : Ty) : ren f t = .mk (t.ins.map (ren f)) (f t.atom) := by
  cases t with
  | mk l b =>
    rw [ren, renL_map]
    rfl
mutual
theorem places_ren (f : Str → Str) : ∀ t : Ty, (ren f t).places = t.places.map f
  | .mk l b => by
    rw [ren, places, places, List.map_append, places_renL f l]
    rfl
theorem places_renL (f : Str → Str) : ∀ l : List Ty, placesL (renL f l) = (placesL l).map f
  | [] => by rw [renL, placesL_nil]; rfl
  | t :: r => by rw [renL, placesL_cons, placesL_cons, List.map_append, places_ren f t, places_renL f r]
end
mutual
theorem order_ren (f : Str → Str) : ∀ t : Ty, (ren f t).order = t.order
  | .mk l b => by
    rw [ren, order, order, order_renL f l]
theorem order_renL (f : Str → Str) : ∀ l : List Ty, orderL (renL f l) = orderL l
  | [] => by rw [renL]
  | t :: r => by rw [renL, orderL, orderL, order_ren f t, order_renL f r]
end
mutual
theorem ren_congr {f g : Str → Str} : ∀ t : Ty, (∀ x ∈ t.places, f x = g x) → ren f t = ren g t
  | .mk l b, h => by
    rw [places] at h
    rw [ren, ren, ren_congrL l fun x hx => h x (List.mem_append_left _ hx), h b (List.mem_append_right _ (List.mem_singleton.mpr rfl))]
theorem ren_congrL {f g : Str → Str} : ∀ l : List Ty, (∀ x ∈ placesL l, f x = g x) → renL f l = renL g l
  | [], _ => by rw [renL, renL]
  | t :: r, h => by
    rw [placesL_cons] at h
    rw [renL, renL, ren_congr t fun x hx => h x (List.mem_append_left _ hx), ren_congrL r fun x hx => h x (List.mem_append_right _ hx)]
end
end Ty
/-- a word, of plain signs -/
theorem fits_ren {f : Str → Str} {t : Ty} (h : t.Fits) (w : ∀ x ∈ t.places, Wd (f x)) : (Ty.ren f t).Fits :=
  ⟨fun a ha => by
    rw [Ty.places_ren] at ha
    obtain ⟨x, hx, e⟩ := List.mem_map.mp ha
    rw [← e]
    exact w x hx, by rw [Ty.places_ren, List.length_map]; exact h.few, by rw [Ty.order_ren]; exact h.low⟩
theorem IsAtoms.len {t : Ty} {ys zs : List Str} (h : IsAtoms t ys) (k : IsAtoms t zs) : ys.length = zs.length :=
  ((List.perm_ext_iff_of_nodup h.1 k.1).mpr fun x => (h.2.2.1 x).trans (k.2.2.1 x).symm).length_eq
theorem look_out {f : Str → Str} {x : Str} : ∀ l : List Str, x ∉ l → look (l.map fun z => (z, f z)) x = none
  | [], _ => rfl
  | z :: r, h => by
    rw [List.map_cons, look, List.find?_cons_of_neg (by simpa using fun e : z = x => h (e ▸ List.mem_cons_self ..))]
    exact look_out r fun k => h (List.mem_cons_of_mem _ k)
theorem look_in {f : Str → Str} {x : Str} : ∀ l : List Str, x ∈ l → look (l.map fun z => (z, f z)) x = some (f x)
  | [], h => by cases h
  | z :: r, h => by
    by_cases e : z = x
    · rw [List.map_cons, look, List.find?_cons_of_pos (by simpa using e), ← e]
      rfl
    · rw [List.map_cons, look, List.find?_cons_of_neg (by simpa using e)]
      exact look_in r ((List.mem_cons.mp h).resolve_left fun k => e k.symm)
theorem IsN.get {H : Hp} {d : Addr} {ws : List (Str × Str)} {x y : Str} (h : IsN H d ws) (e : look ws x = some y) : DGet H d (.str x) (some (.str y)) := by
  have g := DGet.k (k := Sum.inr x) h
  rw [valV_look, e] at g
  exact g


end My
namespace My
open PySem PySem.Spec PyProof.Rows L2 TL
set_option pp.maxSteps 3000
set_option pp.deepTerms false
def sp__is_renaming (K : PySem.W.Frag) : Sp := fun vs H Q _ => ∃ d p ws, ∃ ys : List Str, vs = [.ref d, .ref p] ∧ IsN H d ws ∧ H p = some (.tup (ys.map V.str)) ∧ ws.length = ys.length ∧ ys.length ≤ 100 ∧ (∀ y ∈ ys, ∃ z, look ws y = some z ∧ Wd z) ∧ ∀ H', Same H H' → Q (.bl true) H'
def spr_Type_renamed (n : Nat) (K : PySem.W.Frag) (C : Addr) : Sp := fun vs H Q _ => ∃ v t d ws f, vs = [v, .ref d] ∧ IsT C H t v ∧ IsN H d ws ∧ (∀ ys, IsAtoms t ys → ws.length = ys.length) ∧ (∀ x ∈ t.places, look ws x = some (f x) ∧ Wd (f x)) ∧ t.order < n ∧ t.Fits ∧ Made C H Q (Ty.ren f t)
def sp_Type_renamed (K : PySem.W.Frag) (C : Addr) : Sp := spr_Type_renamed 6 K C
section
variable {P : Program} {w : World} {K : PySem.W.Frag} {mg : Str → Option Value} {base : Heap} {C_Type : Addr}
theorem ok__is_renaming (T : Txt K mg C_Type) (c_is_word : CalN P w K mg base "is_word" 1 ["value"] (sp_is_word K)) {f : Addr} {fd : FuncData} (F : Fun K "_is_renaming" "_is_renaming" s__is_renaming f fd) : FnOk P w K mg base CX0 2 f fd ["names", "atoms"] (sp__is_renaming K) := by
  have nd := sc__is_renaming.nd
  refine F.ok sc__is_renaming (fun vs H Q E h => ?_) (fun cdv A outer s H vs Q E hr h => ?_)
  · obtain ⟨d, p, ws, ys, rfl, _⟩ := h
    rfl
  · obtain ⟨d, p, ws, ys, rfl, hd, hp, hn, hy, hw, q⟩ := h
    refine ⟨_, (pss_cons (ps_if (PW.pt (pw_or (pt_not (pt_val (pe_callB call_isi (by rfl) T.b_isinstance (by decide +kernel) (pa_cons (pv 0) (pa_cons (pe_bltn (v := .ty "dict") (u := .type "dict") (by rfl) T.b_dict (by decide +kernel) rfl) pa_nil))))) (pw_or1 (pt_cmpR op_ne (pe_callB call_lenD (by rfl) T.b_len (by decide +kernel) (pa_cons (pv 0) pa_nil)) (pe_callB call_len (by rfl) T.b_len (by decide +kernel) (pa_cons (pv 1) pa_nil)) (nomark _))))) (pss_one (ps_ret pe_bl)) pss_nil)
      (pss_one (ps_ret (pe_callB (cr_all rfl) (by rfl) T.b_all (by decide +kernel) (pa_cons (pe_lcD (own := [("word", 2)]) (by rfl) nd (pi_tup (pv 1)) (blkOk_by (own := [("word", 2)]) (N := ["names", "atoms", "word"]) (sc := (defScope s__is_renaming)) (by decide +kernel)) (fun _ _ _ _ _ => pg_name (i := 2) nd rfl (Or.inl rfl)) (fun _ _ _ _ _ => pts_nil) (fun _ _ _ _ _ => (pe_and (pe_cmp (pc_din (by first | exact Nat.lt_of_le_of_lt (Nat.add_le_add_left (by decide : 1 ≤ 64) _) hr.units | exact Nat.lt_of_le_of_lt (Nat.add_le_add_left (by decide : 4 ≤ 64) _) hr.units | exact Nat.lt_of_le_of_lt (Nat.add_le_add_left (by decide : 7 ≤ 64) _) hr.units) (pv 2) (pv 0)) (by rfl)) (pe_one (pe_callN c_is_word (hr.mono (by first | decide | omega)) rfl (pa_cons (pe_dget (by first | exact Nat.lt_of_le_of_lt (Nat.add_le_add_left (by decide : 1 ≤ 64) _) hr.units | exact Nat.lt_of_le_of_lt (Nat.add_le_add_left (by decide : 4 ≤ 64) _) hr.units | exact Nat.lt_of_le_of_lt (Nat.add_le_add_left (by decide : 7 ≤ 64) _) hr.units) (pv 0) (pv 2) (fun _ _ => rfl)) pa_nil)))))) pa_nil))))), ?_⟩
    refine ⟨.ref d, rfl, .ref d, .ty "dict", .type "dict", .type "dict", true, rfl, .ty _, .base (.dK hd), kit_ty (by decide +kernel), true, rfl, iteF ?_⟩
    refine ⟨.ref d, rfl, d, _, rfl, hd, .ref p, rfl, .ref p, _, rfl, .inr ⟨_, SqT.of hp, rfl⟩, rfl, false, congrArg V.bl (by rw [List.length_map, List.length_map, hn]; simp), iteF ?_⟩
    refine nx_go ?_
    dsimp only
    refine ⟨.ref p, rfl, p, rfl, ⟨_, SqT.of hp⟩, fun D hD => lc_tup (xs := ys.map V.str) (fun i H' => H' D = some (.lst ((List.replicate i true).map V.bl)) ∧ Same H H') ?_ (fun i H1 _ hP => SqT.of (hP.2 _ _ hp)) (fun i x H1 hx hP => ?_) (fun H1 hP => ?_)⟩
    · exact ⟨upd_same, (Same.refl H).mut hD⟩
    · obtain ⟨hD1, s1⟩ := hP
      have io := lt_of_get hx
      rw [List.length_map] at io
      rw [List.getElem?_map, List.getElem?_eq_getElem io] at hx
      cases hx
      obtain ⟨z, hz, wz⟩ := hw _ (List.getElem_mem io)
      have g : DGet H1 d (.str ys[i]) (some (.str z)) := IsN.get (s1 _ _ hd) hz
      have zl := isW_len wz.1
      refine ⟨rfl, tyes ?_⟩
      refine ⟨.str ys[i], rfl, .ref d, rfl, d, _, rfl, g, true, rfl, iteT ?_⟩
      refine ⟨.ref d, rfl, .str ys[i], rfl, d, .str z, rfl, g, .str z, rfl, .inl ⟨z, rfl, by omega, wz.2⟩, fun H2 s2 => ?_⟩
      refine ⟨_, s2 _ _ hD1, lt_line' ?_, ?_, (s1.trans s2).mut hD⟩
      · rw [List.length_map, List.length_replicate]
        omega
      · rw [upd_same, List.replicate_succ', List.map_append, wz.1]
        rfl
    · obtain ⟨hD1, s1⟩ := hP
      refine ⟨D, _, rfl, SqL.of hD1, ?_⟩
      have e : (List.replicate (ys.map V.str).length true).all id = true := List.all_eq_true.mpr fun b hb => by
        rw [List.eq_of_mem_replicate hb]
        rfl
      rw [e]
      exact q _ s1
theorem ok_Type_renamed (T : Txt K mg C_Type) (i_Type___init__ : MakC P w K mg base C_Type 4 ["self", "inputs", "atom"] (sp_Type___init__ K C_Type)) (c__is_renaming : CalN P w K mg base "_is_renaming" 2 ["names", "atoms"] (sp__is_renaming K)) (p_Type_atoms : PrpC P w K mg base C_Type "atoms" 1 ["self"] (sp_Type_atoms K C_Type)) {f : Addr} {fd : FuncData} (F : Fun K "renamed" "Type.renamed" s_Type_renamed f fd) (M : Meth K C_Type "renamed" f) (B : Binds K fd ["self", "names"] []) : ∀ n : Nat, FnOk P w K mg base CX0 (6 + n) f fd ["self", "names"] (spr_Type_renamed n K C_Type)
  | 0 => by
    refine F.ok sc_Type_renamed (fun vs H Q E h => ?_) (fun cdv A outer s H vs Q E hr h => ?_) <;> (obtain ⟨_, _, _, _, _, _, _, _, _, _, z, _⟩ := h; exact absurd z (Nat.not_lt_zero _))
  | n + 1 => by
    have ih := ok_Type_renamed T i_Type___init__ c__is_renaming p_Type_atoms F M B n
    have m_Type_renamed : MetC P w K mg base C_Type "renamed" (6 + n) ["self", "names"] (spr_Type_renamed n K C_Type) := ⟨f, fd, ih, M, B⟩
    have nd := sc_Type_renamed.nd
    refine F.ok sc_Type_renamed (fun vs H Q E h => ?_) (fun cdv A outer s H vs Q E hr h => ?_)
    · obtain ⟨v, t, d, ws, f', rfl, _⟩ := h
      rfl
    · obtain ⟨v, t, d, ws, f', rfl, ht, hd, hn, hw, lo, ft, q⟩ := h
      have hr : Room (6 + n) (A.deeper (envOfC "Type.renamed" (defScope s_Type_renamed) s.heap.objs.size f cdv)) := hr
      refine ⟨_, (pss_cons (ps_if (pt_not (pt_truth (pe_callN c__is_renaming (hr.mono (by first | decide | omega)) rfl (pa_cons (pv 1) (pa_cons (pe_propC p_Type_atoms T.k_Type (hr.mono (by first | decide | omega)) (pv 0)) pa_nil))) (by intro _; rfl))) (pss_one ps_never) pss_nil)
      (pss_cons (ps_setLcD (i := 2) (own := [("one", 3)]) (by rfl) nd rfl rfl (sw_true rfl rfl rfl (by decide +kernel)) (pi_tup (pe_fld (pv 0) rfl)) (blkOk_by (own := [("one", 3)]) (N := ["self", "names", "inputs", "one", "word"]) (sc := (defScope s_Type_renamed)) (by decide +kernel)) (fun _ _ _ _ _ => pg_name (i := 3) nd rfl (Or.inl rfl)) (fun _ _ _ _ _ => pts_nil) (fun _ _ _ _ _ => (pe_methC m_Type_renamed T.k_Type (hr.mono (by first | decide | omega)) (pv 3) (pa_cons (pe_dc (own := [("word", 4)]) (by rfl) nd (pi_tup (pe_propC p_Type_atoms T.k_Type (hr.mono (by first | decide | omega)) (pv 3))) (blkOk_by (own := [("word", 4)]) (N := ["self", "names", "inputs", "one", "word"]) (sc := { kind := .function, names := [(".0", .local), ("one", .local), ("names", .cell)], isGenerator := false, isCoroutine := false, more := [] }) (by decide +kernel)) (fun _ _ _ _ _ => pg_name (i := 4) nd rfl (Or.inl rfl)) (fun _ _ _ _ _ => pts_nil) (fun _ _ _ _ _ => (pv 4)) (fun _ _ _ _ _ => (pe_dget (by first | exact Nat.lt_of_le_of_lt (Nat.add_le_add_left (by decide : 1 ≤ 64) _) hr.units | exact Nat.lt_of_le_of_lt (Nat.add_le_add_left (by decide : 4 ≤ 64) _) hr.units | exact Nat.lt_of_le_of_lt (Nat.add_le_add_left (by decide : 7 ≤ 64) _) hr.units) (pv 1) (pv 4) (fun _ _ => rfl)))) pa_nil))))
      (pss_one (ps_ret (pe_makeC i_Type___init__ (hr.mono (by first | decide | omega)) rfl T.c_Type (pa_cons (pe_callTy call_tuple_of (by rfl) T.b_tuple (by decide +kernel) (pa_cons (pv 2) pa_nil)) (pa_cons (pe_dget (by first | exact Nat.lt_of_le_of_lt (Nat.add_le_add_left (by decide : 1 ≤ 64) _) hr.units | exact Nat.lt_of_le_of_lt (Nat.add_le_add_left (by decide : 4 ≤ 64) _) hr.units | exact Nat.lt_of_le_of_lt (Nat.add_le_add_left (by decide : 7 ≤ 64) _) hr.units) (pv 1) (pe_fld (pv 0) rfl) (fun _ _ => rfl)) pa_nil))))))), ?_⟩
      obtain ⟨b, dx, p, q', rs, rfl, hb, hp, hl, hq⟩ := ht.at
      have few := Fits_ins_len ft
      have fp := ft.few
      have lr := hl.len
      have ft' : (Ty.mk t.ins t.atom).Fits := by rw [Ty.mk_eta]; exact ft
      have eo : t.order = Ty.orderL t.ins := by cases t; rw [Ty.order]; rfl
      refine ⟨.ref d, rfl, .ref b, rfl, b, dx, _, rfl, hb, .ref b, t, rfl, ht, ft, fun p1 ys H1 s1 hp1 ia => ?_⟩
      refine ⟨d, p1, ws, ys, rfl, s1 _ _ hd, hp1, hn ys ia, Nat.le_trans ia.2.2.2 (by omega), fun y hy => ⟨f' y, hw y ((ia.2.2.1 y).mp hy)⟩, fun H2 s2 => ⟨true, rfl, iteF ?_⟩⟩
      refine nx_go ?_
      dsimp only
      have s02 := s1.trans s2
      clear s1 s2 hp1
      refine cut_set (fun v H' => ∃ D rs', v = .ref D ∧ H' D = some (.lst rs') ∧ IsTs C_Type H' (t.ins.map (Ty.ren f')) rs' ∧ Same H H') (fun Q' q' => ?_) ?_
      · refine ⟨.ref b, rfl, b, C_Type, dx, _, .ref p, rfl, s02 _ _ hb, T.k_Type, T.x_Type.n_inputs, rfl, p, rfl, ⟨rs, SqT.of (s02 _ _ hp)⟩, fun D hD => ?_⟩
        have nD : H D = none := s02.free hD
        refine lc_tup (xs := rs) (fun i H' => ∃ rs', H' D = some (.lst rs') ∧ IsTs C_Type H' ((t.ins.take i).map (Ty.ren f')) rs' ∧ Same H H') ?_ (fun i H' _ hP => ?_) (fun i y H' hy hP => ?_) (fun H' hP => ?_)
        · exact ⟨[], upd_same, by rw [List.take_zero]; exact IsTs.nil, s02.mut nD⟩
        · obtain ⟨_, _, _, s2⟩ := hP
          exact SqT.of (s2 _ _ hp)
        · obtain ⟨rs', hD1, hl1, s2⟩ := hP
          obtain ⟨s, es, hs⟩ := hl.get hy
          have hs2 := IsT.same s2 s y hs
          obtain ⟨b', dx', _, _, _, rfl, hb', _⟩ := hs2.at
          have sm := List.mem_of_getElem? es
          have fs : s.Fits := ft'.ins sm
          have lo' : s.order < n := by
            have := Ty.low_ins sm
            omega
          have sub : ∀ x ∈ s.places, x ∈ t.places := fun x hx => by
            rw [Ty.places_of t]
            exact List.mem_append_left _ (Ty.places_sub sm x hx)
          refine ⟨rfl, tyes ?_⟩
          refine ⟨.ref b', rfl, b', dx', _, rfl, hb', rfl, ?_⟩
          refine ⟨.ref b', rfl, b', dx', _, rfl, hb', .ref b', s, rfl, hs2, fs, fun p2 zs H3 s3 hp2 ja => ?_⟩
          refine ⟨p2, rfl, ⟨_, SqT.of hp2⟩, fun D2 hD2 => ?_⟩
          have s23 := s2.trans s3
          refine dc_tup (xs := zs.map V.str) (fun i H' => IsN H' D2 ((zs.take i).map fun z => (z, f' z)) ∧ Same H3 H') ?_ (fun i H' _ hP => SqT.of (hP.2 _ _ hp2)) (fun j x H4 hx hP => ?_) (fun H4 hP => ?_)
          · exact ⟨by rw [List.take_zero]; exact upd_same, (Same.refl H3).mut hD2⟩
          · obtain ⟨hN, s4⟩ := hP
            have jo := lt_of_get hx
            rw [List.length_map] at jo
            rw [List.getElem?_map, List.getElem?_eq_getElem jo] at hx
            cases hx
            have zt := sub _ ((ja.2.2.1 _).mp (List.getElem_mem jo))
            have g : DGet H4 d (.str zs[j]) (some (.str (f' zs[j]))) := IsN.get (s4 _ _ (s23 _ _ hd)) (hw _ zt).1
            refine ⟨rfl, tyes ?_⟩
            refine ⟨.str zs[j], rfl, .ref d, rfl, .str zs[j], rfl, d, .str (f' zs[j]), rfl, g, _, Sum.inr zs[j], rfl, hN, lt_line' ?_, ?_, s4.mut hD2⟩
            · have := ja.2.2.2
              have := fs.few
              rw [List.length_map, List.length_map, List.length_take]
              omega
            · have out : zs[j] ∉ zs.take j := fun k => by
                have nd := ja.1
                rw [← List.take_append_drop j zs, List.nodup_append] at nd
                have e : zs[j] ∈ zs.drop j := List.mem_iff_getElem?.mpr ⟨0, by rw [List.getElem?_drop]; exact List.getElem?_eq_getElem jo⟩
                exact nd.2.2 _ k _ e rfl
              show upd H4 D2 _ D2 = _
              rw [upd_same, putK_new _ (by rw [valV_look, look_out _ out]; rfl), take_next (List.getElem?_eq_getElem jo), List.map_append, List.map_append]
              rfl
          · obtain ⟨hN, s4⟩ := hP
            rw [List.length_map, List.take_length] at hN
            have s24 := s23.trans s4
            refine ⟨.ref b', s, D2, _, f', rfl, IsT.same (s3.trans s4) s _ hs2, hN, fun ys' iy => ?_, fun x hx => ⟨look_in zs ((ja.2.2.1 x).mpr hx), (hw x (sub x hx)).2⟩, lo', fs, fun x H5 s5 hx => ?_⟩
            · rw [List.length_map]
              exact ja.len iy
            · have s35 := (s3.trans s4).trans s5
              refine ⟨rs', s35 _ _ hD1, lt_line' (by rw [hl1.len, List.length_map, List.length_take]; omega), rs' ++ [.ref x], upd_same, ?_, (s2.trans s35).mut nD⟩
              rw [take_next es, List.map_append]
              have h3 : Held H5 (upd H5 D (.lst (rs' ++ [.ref x]))) := held_lst (s35 _ _ hD1)
              exact (IsTs.held h3 _ _ (IsTs.same s35 _ _ hl1)).app (.cons (IsT.held h3 _ _ hx) .nil)
        · obtain ⟨rs', hD1, hl1, s2⟩ := hP
          rw [lr, List.take_length] at hl1
          exact q' _ _ ⟨D, rs', rfl, hD1, hl1, s2⟩
      rintro v H2 ⟨D, rs', rfl, hD, hl2, s2⟩
      have at_ : t.atom ∈ t.places := by
        rw [Ty.places_of t]
        exact List.mem_append_right _ (List.mem_singleton.mpr rfl)
      refine ⟨.ref D, rfl, D, rs', rfl, .inl ⟨SqL.of hD, fun l hl9 => ?_⟩⟩
      have s9 := s2.new (o := .tup rs') hl9
      refine ⟨.ref d, rfl, .ref b, rfl, b, C_Type, dx, _, .str t.atom, rfl, s9 _ _ hb, T.k_Type, T.x_Type.n_atom, rfl, d, .str (f' t.atom), rfl, IsN.get (s9 _ _ hd) (hw _ at_).1, ?_⟩
      have fit := fits_ren ft fun x hx => (hw x hx).2
      rw [Ty.ren_eq] at q fit
      exact make_ty upd_same (IsTs.same ((Same.refl H2).new hl9) _ _ hl2) fit fun x H' s h => q x H' (s9.trans s) h
end


end My
namespace My
open PySem PySem.Spec PyProof.Rows L2 TL
set_option pp.maxSteps 3000
set_option pp.deepTerms false
/-! ### dicts that are no names of just the atoms -/
theorem renF_same {kvs : List (Key × V)} {ys zs : List Str} (m : ∀ x, x ∈ ys ↔ x ∈ zs) (l : ys.length = zs.length) : renF kvs ys = renF kvs zs := by
  unfold renF
  rw [l]
  congr 1
  rw [Bool.eq_iff_iff, List.all_eq_true, List.all_eq_true]
  exact ⟨fun h x hx => h x ((m x).mpr hx), fun h x hx => h x ((m x).mp hx)⟩
inductive WrongV (ys : List Str) (H : Hp) : V → Prop
  | non : WrongV ys H .non
  | zero : WrongV ys H (.int 0)
  | word : WrongV ys H (.str "a")
  | list {a : Addr} {vs : List V} (h : H a = some (.lst vs)) : WrongV ys H (.ref a)
  | dict {a : Addr} {kvs : List (Key × V)} (h : H a = some (.dK kvs)) (v : ∀ k v, (k, v) ∈ kvs → (∃ x : Str, v = .str x ∧ x.length ≤ 1000 ∧ ∀ c ∈ x.cps.toList, c < 128) ∨ ∃ i, v = .int i) (no : renF kvs ys = false) : WrongV ys H (.ref a)
theorem WrongV.ext {ys : List Str} {H H' : Hp} (e : LamX.ExtN H H') {v : V} (h : WrongV ys H v) : WrongV ys H' v := by
  cases h with
  | non => exact .non
  | zero => exact .zero
  | word => exact .word
  | list h => exact .list (e _ _ h fun _ z => nomatch z)
  | dict h a b => exact .dict (e _ _ h fun _ z => nomatch z) a b
theorem WrongV.roll {ys : List Str} {H H' : Hp} {d : Addr} (e : Ext d H H') (D : IsDice H d) (D' : IsDice H' d) {v : V} (h : WrongV ys H v) : WrongV ys H' v := by
  cases h with
  | non => exact .non
  | zero => exact .zero
  | word => exact .word
  | list h =>
    obtain ⟨_, h⟩ := roll_lst e D' h
    exact .list h
  | dict h a b => exact .dict (roll_at e D h fun _ z => nomatch z) a b
theorem WrongV.alt {K : PySem.W.Frag} {ys : List Str} {H : Hp} {t : Ty} {v : V} (h : WrongV ys H v) (ia : IsAtoms t ys) : (∃ ty, (∀ H', Same H H' → TyX K H' v ty) ∧ PySem.W.kitOne K ty (.type "dict") = some false) ∨
    ∃ d kvs, v = .ref d ∧ H d = some (.dK kvs) ∧ (∀ y v, valV kvs (Sum.inr y) = some v → ∀ H', Same H H' → ValW K H' v) ∧ ∀ ys, IsAtoms t ys → renF kvs ys = false := by
  cases h with
  | non => exact .inl ⟨_, fun _ _ => .base .non, kit_ty (by decide +kernel)⟩
  | zero => exact .inl ⟨_, fun _ _ => .base (.int 0), kit_ty (by decide +kernel)⟩
  | word => exact .inl ⟨_, fun _ _ => .base (.str _), kit_ty (by decide +kernel)⟩
  | list h => exact .inl ⟨_, fun _ s => .base (.lst (s _ _ h)), kit_ty (by decide +kernel)⟩
  | dict h a b =>
    refine .inr ⟨_, _, rfl, h, fun y v hv H' _ => ?_, fun zs iz => ?_⟩
    · rcases a _ _ (valV_mem hv) with ⟨x, rfl, l, c⟩ | ⟨i, rfl⟩
      · exact .inl ⟨x, rfl, l, c⟩
      · exact .inr ⟨_, .base (.int i), kit_ty (by decide +kernel), rfl⟩
    · rw [renF_same (fun x => (iz.2.2.1 x).trans (ia.2.2.1 x).symm) (iz.len ia)]
      exact b
/-- the four dicts -/
theorem same_words {ys : List Str} {t : Ty} (ia : IsAtoms t ys) (ft : t.Fits) : ∀ y ∈ ys, y.length ≤ 1000 ∧ ∀ c ∈ y.cps.toList, c < 128 := fun y hy => by
  have h := ft.words y ((ia.2.2.1 y).mp hy)
  have l := isW_len h.1
  exact ⟨by omega, h.2⟩
theorem atoms_ne {ys : List Str} {t : Ty} (ia : IsAtoms t ys) : ys ≠ [] := fun z => by
  have h := (ia.2.2.1 t.atom).mpr (by rw [Ty.places_of]; exact List.mem_append_right _ (List.mem_singleton.mpr rfl))
  rw [z] at h
  cases h
abbrev idK (ys : List Str) : List (Key × V) := ys.map fun y => ((Sum.inr y : Key), V.str y)
theorem wrong_more {ys : List Str} {t : Ty} (ia : IsAtoms t ys) (ft : t.Fits) {H : Hp} {a : Addr} (h : H a = some (.dK (idK ys ++ [((Sum.inr "zz" : Key), V.str "zy")]))) : WrongV ys H (.ref a) := by
  refine .dict h (fun k v hv => ?_) ?_
  · rcases List.mem_append.mp hv with hv | hv
    · obtain ⟨y, hy, e⟩ := List.mem_map.mp hv
      cases e
      exact .inl ⟨y, rfl, same_words ia ft y hy⟩
    · rw [List.mem_singleton] at hv
      cases hv
      exact .inl ⟨_, rfl, by decide +kernel, by decide +kernel⟩
  · unfold renF
    rw [decide_eq_false (by rw [List.length_append, List.length_map]; show ¬ _ + 1 = _; omega)]
    rfl
theorem wrong_less {ys : List Str} {t : Ty} (ia : IsAtoms t ys) (ft : t.Fits) {H : Hp} {a : Addr} (h : H a = some (.dK ((idK ys).drop 1))) : WrongV ys H (.ref a) := by
  refine .dict h (fun k v hv => ?_) ?_
  · obtain ⟨y, hy, e⟩ := List.mem_map.mp (List.mem_of_mem_drop hv)
    cases e
    exact .inl ⟨y, rfl, same_words ia ft y hy⟩
  · have ne := List.length_pos_iff.mpr (atoms_ne ia)
    unfold renF
    rw [decide_eq_false (by rw [List.length_drop, List.length_map]; omega)]
    rfl
theorem wrong_const {ys : List Str} {t : Ty} {c : V} (ia : IsAtoms t ys) (hc : (∃ x : Str, c = .str x ∧ x.length ≤ 1000 ∧ ∀ c ∈ x.cps.toList, c < 128) ∨ ∃ i, c = .int i) (no : isW c = false) {H : Hp} {a : Addr} (h : H a = some (.dK (ys.map fun y => ((Sum.inr y : Key), c)))) : WrongV ys H (.ref a) := by
  refine .dict h (fun k v hv => ?_) ?_
  · obtain ⟨y, hy, e⟩ := List.mem_map.mp hv
    cases e
    exact hc
  · obtain ⟨y, hy⟩ := List.exists_mem_of_ne_nil _ (atoms_ne ia)
    unfold renF
    refine Bool.and_eq_false_iff.mpr (.inr ?_)
    rw [List.all_eq_false]
    exact ⟨y, hy, by rw [valV_const hy]; simp [no]⟩
theorem keys_nodup {ys : List Str} {f : Str → V} (nd : ys.Nodup) : ((ys.map fun y => ((Sum.inr y : Key), f y)).map (·.1)).Nodup := by
  rw [List.map_map]
  exact List.pairwise_map.mpr (nd.imp fun h z => h (Sum.inr.inj z))
theorem look_self : ∀ {ys : List Str} {x : Str}, x ∈ ys → look (ys.map fun y => (y, y)) x = some x
  | y :: r, x, h => by
    unfold look
    rw [List.map_cons]
    by_cases e : y = x
    · rw [List.find?_cons_of_pos (by simp [e])]
      show some y = some x
      rw [e]
    · rw [List.find?_cons_of_neg (by simp [e])]
      exact look_self (ys := r) ((List.mem_cons.mp h).resolve_left fun z => e z.symm)


end My
namespace My
open PySem PySem.Spec PyProof.Rows L2 TL
set_option pp.maxSteps 3000
set_option pp.deepTerms false
/-! ### wrong indices, operands, names -/
abbrev lamA : Str := ("_law_asked_wrongly" : Str) ++ ".<locals>." ++ "<lambda>"
def sp__law_asked_wrongly (Ts : List (Addr × Str)) (_ : PySem.W.Frag) (C : Addr) : Sp := fun vs H Q _ => ∃ d x t, vs = [.ref d, x] ∧ IsDice H d ∧ LamX.Tabs Ts H ∧ IsT C H t x ∧ t.Fits ∧ (∀ a ∈ t.places, a ∈ (["a", "b", "c"] : List Str)) ∧ ∀ H', ExtL d H H' → IsDice H' d → LamX.Tabs Ts H' → Q (.bl true) H'
section
variable {P : Program} {w : World} {K : PySem.W.Frag} {mg : Str → Option Value} {base : Heap} {C_Type CT CW CO CN CP : Addr} {Ts : List (Addr × Str)}
theorem ok__law_asked_wrongly (T : Txt K mg C_Type) (N7 : NeL K C_Type) (tyC : PySem.W.typeIn K (.ref C_Type) = some (.type "type")) (e_ref : Ref7 K mg CT CW CO CN CP) (x7 : Exm7 K CT CW CO CN CP) (c__law_pick : CalN P w K mg base "_law_pick" 2 ["_law_dice_here", "_law_items"] (sp__law_pick K)) (p_Type_text : PrpC P w K mg base C_Type "text" 1 ["self"] (getSp C_Type "_text"))
    (p_Type_inputs : PrpC P w K mg base C_Type "inputs" 1 ["self"] (getSp C_Type "_inputs")) (p_Type_atoms : PrpC P w K mg base C_Type "atoms" 1 ["self"] (sp_Type_atoms K C_Type))
    (mG : MetGX P w K mg base C_Type "__getitem__" 9 ["self", "at"] (sp_Type_getO K C_Type CN)) (fnG : ∀ f, Meth K C_Type "__getitem__" f → PySem.W.fnIn K f = true) (mS : MetX P w K mg base C_Type "__rshift__" 6 ["self", "other"] (sp_Type_rshO K C_Type CO)) (OS : OwnA K C_Type .RShift)
    (mM : MetX P w K mg base C_Type "__mod__" 6 ["self", "other"] (sp_Type_modO K C_Type CO)) (OM : OwnA K C_Type .Mod) (mN : MetX P w K mg base C_Type "renamed" 6 ["self", "names"] (sp_Type_renO K C_Type CO)) (m_Type_renamed : MetC P w K mg base C_Type "renamed" 12 ["self", "names"] (sp_Type_renamed K C_Type))
    {g : Addr} {fdg : FuncData} (F__law_refusal : Fun K "_law_refusal" "_law_refusal" s__law_refusal g fdg) (M__law_refusal : mg "_law_refusal" = some (.ref g)) (B__law_refusal : L2.Binds K fdg ["_law_call"] [])
    {c PT : Addr} (TB : LamX.TabB base mg c PT) (inT : (PT, lamA) ∈ Ts) (just : ∀ p ∈ Ts, p.1 = PT → p.2 = lamA) {f : Addr} {fd : FuncData} (F : Fun K "_law_asked_wrongly" "_law_asked_wrongly" s__law_asked_wrongly f fd) (hcd : fd.code = .ref c) : FnOkG P w K mg base CX0 21 f fd ["_law_dice_here", "_law_made"] (sp__law_asked_wrongly Ts K C_Type) := by
  have nd := sc__law_asked_wrongly.nd
  refine F.okGC sc__law_asked_wrongly (fun vs H Q E h => ?_) (fun A outer s H vs Q E hr hG h => ?_)
  · obtain ⟨d, x, t, rfl, _⟩ := h
    rfl
  · obtain ⟨d, x, t, rfl, hd, hT, ht, ft, abc, q⟩ := h
    refine ⟨_, (pss_cons (ps_set (i := 2) nd rfl (.inl rfl) (pe_callB call_len (by rfl) T.b_len (by decide +kernel) (pa_cons (pe_propC p_Type_inputs T.k_Type (hr.mono (by first | decide | omega)) (pv 1)) pa_nil)))
      (pss_cons (ps_set (i := 3) nd rfl (.inr rfl) (pe_callN c__law_pick (hr.mono (by first | decide | omega)) rfl (pa_cons (pv 0) (pa_cons (pe_lst (pa_cons pe_non (pa_cons (pe_un un_neg pe_int) (pa_cons (pv 2) (pa_cons pe_bl (pa_cons pe_str (pa_cons (pe_tup (pa_cons pe_int pa_nil)) (pa_cons (pe_lst pa_nil) (pa_cons pe_dnewK (pa_cons (pe_op op_powW pe_int pe_int) pa_nil)))))))))) pa_nil))))
      (pss_cons (ps_set (i := 4) nd rfl (.inr rfl) (pe_callN c__law_pick (hr.mono (by first | decide | omega)) rfl (pa_cons (pv 0) (pa_cons (pe_lst (pa_cons pe_non (pa_cons pe_int (pa_cons (pe_propC p_Type_text T.k_Type (hr.mono (by first | decide | omega)) (pv 1)) (pa_cons (pe_tup pa_nil) (pa_cons (pe_lst (pa_cons (pv 1) pa_nil)) (pa_cons pe_dnewK (pa_cons (pe_propC p_Type_inputs T.k_Type (hr.mono (by first | decide | omega)) (pv 1)) pa_nil)))))))) pa_nil))))
      (pss_cons (ps_set (i := 5) nd rfl (.inr rfl) (pe_callN c__law_pick (hr.mono (by first | decide | omega)) rfl (pa_cons (pv 0) (pa_cons (pe_lst (pa_cons pe_non (pa_cons (pe_un un_neg pe_int) (pa_cons (pe_op op_add (pv 2) pe_int) (pa_cons pe_bl (pa_cons pe_str (pa_cons (pe_tup (pa_cons pe_int pa_nil)) (pa_cons (pe_lst pa_nil) (pa_cons (pv 1) (pa_cons (pe_op op_powW pe_int pe_int) pa_nil)))))))))) pa_nil))))
      (pss_cons (ps_set (i := 6) nd rfl (.inr rfl) (pe_callTy (call_dictP rfl) (by rfl) T.b_dict (by decide +kernel) (pa_cons (pe_lcD (own := [("_law_word", 9)]) (by rfl) nd (pi_tup (pe_propC p_Type_atoms T.k_Type (hr.mono (by first | decide | omega)) (pv 1))) (blkOk_by (own := [("_law_word", 9)]) (N := ["_law_dice_here", "_law_made", "_law_many", "_law_index", "_law_none", "_law_count", "_law_names", "_law_wrong", "_law_told", "_law_word"]) (sc := (defScope s__law_asked_wrongly)) (by decide +kernel)) (fun _ _ _ _ _ => pg_name (i := 9) nd rfl (Or.inl rfl)) (fun _ _ _ _ _ => pts_nil) (fun _ _ _ _ _ => (pe_tup (pa_cons (pv 9) (pa_cons (pv 9) pa_nil))))) pa_nil)))
      (pss_cons (ps_set (i := 7) nd rfl (.inr rfl) (pe_lst (pa_cons pe_non (pa_cons (pe_lst pa_nil) (pa_cons pe_int (pa_cons pe_str (pa_cons (pe_callTy (call_dictP rfl) (by rfl) T.b_dict (by decide +kernel) (pa_cons (pe_op op_cat (LiI.pe_listItems rfl (pv 6) (by rfl) T.b_list (by decide +kernel)) (pe_lst (pa_cons (pe_tup (pa_cons pe_str (pa_cons pe_str pa_nil))) pa_nil))) pa_nil)) (pa_cons (pe_callTy (call_dictP rfl) (by rfl) T.b_dict (by decide +kernel) (pa_cons (pe_lock (pe_lcD (own := [("_law_word", 9)]) (by rfl) nd (pi_keys (pv 6)) (blkOk_by (own := [("_law_word", 9)]) (N := ["_law_dice_here", "_law_made", "_law_many", "_law_index", "_law_none", "_law_count", "_law_names", "_law_wrong", "_law_told", "_law_word"]) (sc := (defScope s__law_asked_wrongly)) (by decide +kernel)) (fun _ _ _ _ _ => pg_name (i := 9) nd rfl (Or.inl rfl)) (fun _ _ _ _ _ => pts_nil) (fun _ _ _ _ _ => (pe_tup (pa_cons (pv 9) (pa_cons pe_str pa_nil)))))) pa_nil)) pa_nil))))))))
      (pss_cons (ps_set (i := 7) nd rfl (.inr rfl) (pe_callN c__law_pick (hr.mono (by first | decide | omega)) rfl (pa_cons (pv 0) (pa_cons (pe_op op_cat (pv 7) (pe_lst (pa_cons (pe_callTy (call_dictP rfl) (by rfl) T.b_dict (by decide +kernel) (pa_cons (pe_slice sl_list (LiI.pe_listItems rfl (pv 6) (by rfl) T.b_list (by decide +kernel)) (po_some pe_int) po_none) pa_nil)) (pa_cons (pe_callTy (call_dictP rfl) (by rfl) T.b_dict (by decide +kernel) (pa_cons (pe_lock (pe_lcD (own := [("_law_word", 9)]) (by rfl) nd (pi_keys (pv 6)) (blkOk_by (own := [("_law_word", 9)]) (N := ["_law_dice_here", "_law_made", "_law_many", "_law_index", "_law_none", "_law_count", "_law_names", "_law_wrong", "_law_told", "_law_word"]) (sc := (defScope s__law_asked_wrongly)) (by decide +kernel)) (fun _ _ _ _ _ => pg_name (i := 9) nd rfl (Or.inl rfl)) (fun _ _ _ _ _ => pts_nil) (fun _ _ _ _ _ => (pe_tup (pa_cons (pv 9) (pa_cons pe_int pa_nil)))))) pa_nil)) pa_nil)))) pa_nil))))
      (pss_cons (ps_set (i := 8) nd rfl (.inl rfl) (pe_lst (pa_cons (pe_ref7 (k := 18) hG F__law_refusal M__law_refusal B__law_refusal e_ref inT just TB hcd (hr.mono (by first | decide | omega)) (LamX.lamS_by (sc := defScope s__law_asked_wrongly) (by decide +kernel)) rfl (fun _ _ _ _ _ => rfl) (fun A outer s H E f c2 gs hr2 => (pe_ixE mG (hr2.mono (by first | decide | omega)) (gs.trans hG) (passes_call (takes_of rfl rfl rfl rfl) fun _ _ _ _ h => h) (pv 1) (pv 3) fnG))) pa_nil)))
      (pss_cons (ps_expr (pe_bm PySem.F.plainAttrs_list PySem.F.slot_list_append PySem.F.type_list_append mt_append (pv 8) (pa_cons (pe_ref7 (k := 18) hG F__law_refusal M__law_refusal B__law_refusal e_ref inT just TB hcd (hr.mono (by first | decide | omega)) (LamX.lamS_by (sc := defScope s__law_asked_wrongly) (by decide +kernel)) rfl (fun _ _ _ _ _ => rfl) (fun A outer s H E f c2 gs hr2 => (pe_op (show OpR _ (binaryOp .RShift) (rOwnA K C_Type (sp_Type_rshO K C_Type CO) E) from op_leftA (op := .RShift) (C := C_Type) (sp := sp_Type_rshO K C_Type CO) (E := E) mS (hr2.mono (by first | decide | omega)) OS (passes_call (takes_of rfl rfl rfl rfl) fun _ _ _ _ h => h)) (pv 1) (pv 4)))) pa_nil)))
      (pss_cons (ps_expr (pe_bm PySem.F.plainAttrs_list PySem.F.slot_list_append PySem.F.type_list_append mt_append (pv 8) (pa_cons (pe_ref7 (k := 18) hG F__law_refusal M__law_refusal B__law_refusal e_ref inT just TB hcd (hr.mono (by first | decide | omega)) (LamX.lamS_by (sc := defScope s__law_asked_wrongly) (by decide +kernel)) rfl (fun _ _ _ _ _ => rfl) (fun A outer s H E f c2 gs hr2 => (pe_op (op_or (show OpR _ (binaryOp .Mod) (rOwnA K C_Type (sp_Type_modO K C_Type CO) E) from op_leftA (op := .Mod) (C := C_Type) (sp := sp_Type_modO K C_Type CO) (E := E) mM (hr2.mono (by first | decide | omega)) OM (passes_call (takes_of rfl rfl rfl rfl) fun _ _ _ _ h => h)) (op_ownX (op := .Mod) (C := C_Type) (sp := sp_Type_modO K C_Type CO) (E := E) mM (hr2.mono (by first | decide | omega)) T.x_Type.first (passes_call (takes_of rfl rfl rfl rfl) fun _ _ _ _ h => h))) (pv 1) (pv 5)))) pa_nil)))
      (pss_cons (ps_expr (pe_bm PySem.F.plainAttrs_list PySem.F.slot_list_append PySem.F.type_list_append mt_append (pv 8) (pa_cons (pe_ref7 (k := 18) hG F__law_refusal M__law_refusal B__law_refusal e_ref inT just TB hcd (hr.mono (by first | decide | omega)) (LamX.lamS_by (sc := defScope s__law_asked_wrongly) (by decide +kernel)) rfl (fun _ _ _ _ _ => rfl) (fun A outer s H E f c2 gs hr2 => (pe_methX mN T.k_Type (hr2.mono (by first | decide | omega)) (passes_call (takes_of rfl rfl rfl rfl) fun _ _ _ _ h => h) (pv 1) (pa_cons (pv 7) pa_nil)))) pa_nil)))
      (pss_cons (ps_expr (pe_bm PySem.F.plainAttrs_list PySem.F.slot_list_append PySem.F.type_list_append mt_append (pv 8) (pa_cons (pe_ref7 (k := 18) hG F__law_refusal M__law_refusal B__law_refusal e_ref inT just TB hcd (hr.mono (by first | decide | omega)) (LamX.lamS_by (sc := defScope s__law_asked_wrongly) (by decide +kernel)) rfl (fun _ _ _ _ _ => rfl) (fun A outer s H E f c2 gs hr2 => (pe_methC m_Type_renamed T.k_Type (hr2.mono (by first | decide | omega)) (pv 1) (pa_cons (pv 6) pa_nil)))) pa_nil)))
      (pss_one (ps_ret (pe_cmpR (op_eqD hr.units) (pv 8) (pe_lst (pa_cons (pe_op op_add_str pe_str (pe_callB (call_reprE hG hr.units) (by rfl) T.b_repr (by decide +kernel) (pa_cons (pv 3) pa_nil))) (pa_cons pe_str (pa_cons pe_str (pa_cons pe_str (pa_cons pe_str pa_nil)))))) (nomark _)))))))))))))))), ?_⟩
    obtain ⟨bx, dx, px, qx, rx, rfl, hb, hpx, hrs, hqx⟩ := id ht.at
    have lr := hrs.len
    have fp := ft.few
    have li : t.ins.length + 1 ≤ t.places.length := by
      rw [Ty.places_of t, List.length_append]
      exact Nat.succ_le_succ (Ty.len_placesL t.ins)
    have l16 : t.ins.length < 16 := by omega
    refine cut_set (fun v H' => v = .int (t.ins.length : Nat) ∧ H = H') (fun Q' k => ?_) ?_
    · exact ⟨.ref bx, rfl, bx, dx, _, rfl, hb, bx, dx, _, .ref px, rfl, hb, rfl, .ref px, rx.length, rfl, .inr ⟨rx, SqT.of hpx, rfl⟩, k _ _ ⟨by rw [lr], rfl⟩⟩
    rintro _ _ ⟨rfl, rfl⟩
    refine cut_set (fun v H' => (∃ D, IdxV t.ins.length H' v D) ∧ Ext d H H' ∧ IsDice H' d) (fun Q' k => ?_) ?_
    · have D0 := hd
      refine ⟨.ref d, rfl, 1, rfl, .int (t.ins.length : Nat), rfl, by show 1 ≤ sizeLine; decide, fun p1 h1 => ?_⟩
      have s1 := (Same.refl H).new (o := .tup [.int 0]) h1
      have f1 : upd H p1 (.tup [.int 0]) p1 = some (.tup [.int 0]) := upd_same
      have n1 := D0.ne h1
      have D1 : IsDice (upd H p1 (.tup [.int 0])) d := D0.same s1
      generalize upd H p1 (.tup [.int 0]) = G1 at s1 f1 D1 ⊢
      refine ⟨Nat.zero_le _, fun p2 h2 => ?_⟩
      have s2 := (Same.refl G1).new (o := .lst []) h2
      have f2 : upd G1 p2 (.lst []) p2 = some (.lst []) := upd_same
      have n2 := D1.ne h2
      have D2 : IsDice (upd G1 p2 (.lst [])) d := D1.same s2
      generalize upd G1 p2 (.lst []) = G2 at s2 f2 D2 ⊢
      intro p3 h3
      have s3 := (Same.refl G2).new (o := .dK []) h3
      have f3 : upd G2 p3 (.dK []) p3 = some (.dK []) := upd_same
      have n3 := D2.ne h3
      have D3 : IsDice (upd G2 p3 (.dK [])) d := D2.same s3
      generalize upd G2 p3 (.dK []) = G3 at s3 f3 D3 ⊢
      refine ⟨10, 60, rfl, rfl, ⟨by decide, by decide +kernel⟩, by show 9 ≤ sizeLine; decide, fun l hl => ⟨d, l, _, rfl, D3.new hl, .inl (.inl upd_same), D3.ne hl, by simp, by show 9 < 1000000; decide, fun v H2 hv e2 d2 => k _ _ ⟨?_, ?_, d2⟩⟩⟩
      · have far : ∀ b o, b ≠ d → G3 b = some o → H2 b = some o := fun b o n h => e2 b o n ((upd_ne (ne_of_none h hl)).trans h)
        simp only [List.mem_cons, List.not_mem_nil, or_false] at hv
        rcases hv with rfl | rfl | rfl | rfl | rfl | rfl | rfl | rfl | rfl
        · exact ⟨_, .non⟩
        · exact ⟨_, .neg⟩
        · exact ⟨_, .many⟩
        · exact ⟨_, .bl⟩
        · exact ⟨_, .str⟩
        · exact ⟨_, .tup (far _ _ n1 (s3 _ _ (s2 _ _ f1)))⟩
        · exact ⟨_, .list (far _ _ n2 (s3 _ _ f2))⟩
        · exact ⟨_, .dict (far _ _ n3 f3)⟩
        · exact ⟨_, .big⟩
      · exact fun b o n h => e2 b o n ((upd_ne (ne_of_none (s3 _ _ (s2 _ _ (s1 _ _ h))) hl)).trans (s3 _ _ (s2 _ _ (s1 _ _ h))))
    rintro idx H1 ⟨⟨Di, b1⟩, e1, d1⟩
    have e1 : Ext d H H1 := e1
    have ht1 := IsT.held ((ExtL.of e1).held hd) t _ ht
    have T1 := tabs_ext hT hd e1
    obtain ⟨_, dx1, px1, _, rx1, ex, hb1, hpx1, _⟩ := id ht1.at
    cases ex
    refine cut_set (fun v H' => (∃ S, KindV H' v S) ∧ Ext d H1 H' ∧ IsDice H' d) (fun Q' k => ?_) ?_
    · have D0 := d1
      refine ⟨.ref d, rfl, .ref bx, rfl, bx, dx1, _, rfl, hb1, bx, dx1, _, .str t.text, rfl, hb1, rfl, Nat.zero_le _, fun p1 h1 => ?_⟩
      have s1 := (Same.refl H1).new (o := .tup []) h1
      have f1 : upd H1 p1 (.tup []) p1 = some (.tup []) := upd_same
      have n1 := D0.ne h1
      have D1 : IsDice (upd H1 p1 (.tup [])) d := D0.same s1
      generalize upd H1 p1 (.tup []) = G1 at s1 f1 D1 ⊢
      refine ⟨.ref bx, rfl, by show 1 ≤ sizeLine; decide, fun p2 h2 => ?_⟩
      have s2 := (Same.refl G1).new (o := .lst [.ref bx]) h2
      have f2 : upd G1 p2 (.lst [.ref bx]) p2 = some (.lst [.ref bx]) := upd_same
      have n2 := D1.ne h2
      have D2 : IsDice (upd G1 p2 (.lst [.ref bx])) d := D1.same s2
      generalize upd G1 p2 (.lst [.ref bx]) = G2 at s2 f2 D2 ⊢
      intro p3 h3
      have s3 := (Same.refl G2).new (o := .dK []) h3
      have f3 : upd G2 p3 (.dK []) p3 = some (.dK []) := upd_same
      have n3 := D2.ne h3
      have D3 : IsDice (upd G2 p3 (.dK [])) d := D2.same s3
      generalize upd G2 p3 (.dK []) = G3 at s3 f3 D3 ⊢
      have s13 := (s1.trans s2).trans s3
      refine ⟨.ref bx, rfl, bx, dx1, _, rfl, s13 _ _ hb1, bx, dx1, _, .ref px1, rfl, s13 _ _ hb1, rfl, by show 7 ≤ sizeLine; decide, fun l hl => ⟨d, l, _, rfl, D3.new hl, .inl (.inl upd_same), D3.ne hl, by simp, by show 7 < 1000000; decide, fun v H2 hv e2 d2 => k _ _ ⟨?_, ?_, d2⟩⟩⟩
      · have far : ∀ b o, b ≠ d → G3 b = some o → H2 b = some o := fun b o n h => e2 b o n ((upd_ne (ne_of_none h hl)).trans h)
        have np : px1 ≠ d := fun z => by
          obtain ⟨a, b, c, w⟩ := d1
          rw [← z, hpx1] at w
          cases w
        simp only [List.mem_cons, List.not_mem_nil, or_false] at hv
        rcases hv with rfl | rfl | rfl | rfl | rfl | rfl | rfl
        · exact ⟨_, .non⟩
        · exact ⟨_, .int 0⟩
        · exact ⟨_, .str _⟩
        · exact ⟨_, .tup (far _ _ n1 (s3 _ _ (s2 _ _ f1)))⟩
        · exact ⟨_, .list (far _ _ n2 (s3 _ _ f2))⟩
        · exact ⟨_, .dict (far _ _ n3 f3)⟩
        · exact ⟨_, .tup (far _ _ np (s13 _ _ hpx1))⟩
      · exact fun b o n h => e2 b o n ((upd_ne (ne_of_none (s3 _ _ (s2 _ _ (s1 _ _ h))) hl)).trans (s3 _ _ (s2 _ _ (s1 _ _ h))))
    rintro nn H2 ⟨b2, e2, d2⟩
    have e2 : Ext d H1 H2 := e2
    have b1 := b1.roll e2 d1
    have ht2 := IsT.held ((ExtL.of e2).held d1) t _ ht1
    have T2 := tabs_ext T1 d1 e2
    refine cut_set (fun v H' => CntV t.ins.length (.ref bx) H' v ∧ Ext d H2 H' ∧ IsDice H' d) (fun Q' k => ?_) ?_
    · have D0 := d2
      refine ⟨.ref d, rfl, 1, rfl, .int (t.ins.length : Nat), rfl, _, 1, rfl, rfl, by show 1 ≤ sizeLine; decide, fun p1 h1 => ?_⟩
      have s1 := (Same.refl H2).new (o := .tup [.int 1]) h1
      have f1 : upd H2 p1 (.tup [.int 1]) p1 = some (.tup [.int 1]) := upd_same
      have n1 := D0.ne h1
      have D1 : IsDice (upd H2 p1 (.tup [.int 1])) d := D0.same s1
      generalize upd H2 p1 (.tup [.int 1]) = G1 at s1 f1 D1 ⊢
      refine ⟨Nat.zero_le _, fun p2 h2 => ?_⟩
      have s2 := (Same.refl G1).new (o := .lst []) h2
      have f2 : upd G1 p2 (.lst []) p2 = some (.lst []) := upd_same
      have n2 := D1.ne h2
      have D2 : IsDice (upd G1 p2 (.lst [])) d := D1.same s2
      generalize upd G1 p2 (.lst []) = G2 at s2 f2 D2 ⊢
      refine ⟨.ref bx, rfl, 10, 60, rfl, rfl, ⟨by decide, by decide +kernel⟩, by show 9 ≤ sizeLine; decide, fun l hl => ⟨d, l, _, rfl, D2.new hl, .inl (.inl upd_same), D2.ne hl, by simp, by show 9 < 1000000; decide, fun v H2 hv e2 d2 => k _ _ ⟨?_, ?_, d2⟩⟩⟩
      · have far : ∀ b o, b ≠ d → G2 b = some o → H2 b = some o := fun b o n h => e2 b o n ((upd_ne (ne_of_none h hl)).trans h)
        simp only [List.mem_cons, List.not_mem_nil, or_false] at hv
        rcases hv with rfl | rfl | rfl | rfl | rfl | rfl | rfl | rfl | rfl
        · exact .inr ⟨⟨_, .non⟩, .inl rfl⟩
        · exact .inr ⟨⟨_, .int _⟩, .inr ⟨-1, rfl, by decide +kernel, .inl (by decide)⟩⟩
        · have z : ∀ n < 16, isI7 (.int ((n : Nat) + 1)) = true := by decide +kernel
          exact .inr ⟨⟨_, .int _⟩, .inr ⟨_, rfl, z _ l16, .inr (by omega)⟩⟩
        · exact .inr ⟨⟨_, .bl true⟩, .inl rfl⟩
        · exact .inr ⟨⟨_, .str _⟩, .inl rfl⟩
        · exact .inr ⟨⟨_, .tup (far _ _ n1 (s2 _ _ f1))⟩, .inl rfl⟩
        · exact .inr ⟨⟨_, .list (far _ _ n2 f2)⟩, .inl rfl⟩
        · exact .inl rfl
        · exact .inr ⟨⟨_, .int _⟩, .inl (by decide +kernel)⟩
      · exact fun b o n h => e2 b o n ((upd_ne (ne_of_none (s2 _ _ (s1 _ _ h)) hl)).trans (s2 _ _ (s1 _ _ h)))
    rintro cnt H3 ⟨b3, e3, d3⟩
    have e3 : Ext d H2 H3 := e3
    have b1 := b1.roll e3 d2
    obtain ⟨S2, b2⟩ := b2
    have b2 := b2.roll e3 d2 d3
    have ht3 := IsT.held ((ExtL.of e3).held d2) t _ ht2
    have T3 := tabs_ext T2 d2 e3
    obtain ⟨_, dx3, px3, _, rx3, ex, hb3, hpx3, _⟩ := id ht3.at
    cases ex
    refine cut_set (fun v H' => ∃ dn ys, v = .ref dn ∧ H' dn = some (.dK (idK ys)) ∧ IsAtoms t ys ∧ Same H3 H') (fun Q' k => ?_) ?_
    · refine ⟨.ref bx, rfl, bx, dx3, _, rfl, hb3, .ref bx, t, rfl, ht3, ft, fun p1 ys G s hp1 ia => ⟨p1, rfl, ⟨_, SqT.of hp1⟩, fun D hD => lc_tup (xs := ys.map V.str) (fun i H' => PairsL G D (idK (ys.take i)) H') (by rw [List.take_zero]; exact PairsL.start hD) (fun i H' _ hP => by obtain ⟨_, _, _, s⟩ := hP; exact SqT.of (s _ _ hp1)) (fun i x H' hx hP => ?_) (fun H' hP => ?_)⟩⟩
      · have io := lt_of_get hx
        rw [List.length_map] at io
        rw [List.getElem?_map, List.getElem?_eq_getElem io] at hx
        cases hx
        have ly := ia.2.2.2
        refine ⟨rfl, tyes ⟨.str ys[i], rfl, .str ys[i], rfl, by show 2 ≤ sizeLine; decide, fun p hp => ?_⟩⟩
        have st := hP.step ((Sum.inr ys[i] : Key), V.str ys[i]) hD hp (by rw [List.length_map, List.length_take]; omega)
        rw [take_next (List.getElem?_eq_getElem io)]
        rw [show idK (ys.take i ++ [ys[i]]) = idK (ys.take i) ++ [((Sum.inr ys[i] : Key), V.str ys[i])] by simp only [idK, List.map_append, List.map_cons, List.map_nil]]
        exact st
      · obtain ⟨ps, h1, h2, s2⟩ := hP
        rw [List.length_map, List.take_length] at h2
        refine ⟨D, ps, idK ys, rfl, SqL.of h1, Paired.mono (fun _ _ h => SqT.of h) h2, fun dn hdn => ?_⟩
        rw [mergeK_self (keys_nodup ia.1)]
        exact k _ _ ⟨dn, ys, rfl, upd_same, ia, (s.trans s2).new hdn⟩
    rintro _ H4 ⟨dn, ys, rfl, hdn, ia, s4⟩
    have d4 := d3.same s4
    have ly := ia.2.2.2
    have b1 := b1.ext (.of s4)
    have b2 := b2.ext (.of s4)
    have b3 : CntV t.ins.length (.ref bx) H4 cnt := b3.imp id fun h => ⟨h.1.imp fun _ z => z.ext (.of s4), h.2⟩
    have ht4 := IsT.same s4 t _ ht3
    have T4 := T3.ext s4
    refine cut_set (fun v H' => ∃ lw xs, v = .ref lw ∧ H' lw = some (.lst xs) ∧ xs.length = 6 ∧ (∀ x ∈ xs, WrongV ys H' x) ∧ Same H4 H') (fun Q' k => ?_) ?_
    · refine ⟨Nat.zero_le _, fun p0 h0 => ?_⟩
      have s0 := (Same.refl H4).new (o := .lst []) h0
      have f0 : upd H4 p0 (.lst []) p0 = some (.lst []) := upd_same
      generalize upd H4 p0 (.lst []) = G0 at s0 f0 ⊢
      refine ⟨.ref dn, rfl, dn, _, rfl, s0 _ _ hdn, fun Ha pa ta sa npa nta pta hpa pra => ?_⟩
      have sa : Same G0 Ha := sa
      have lta := Paired.length pra
      rw [List.length_map] at lta
      refine ⟨by show 2 ≤ sizeLine; decide, fun p1 h1 => ⟨by show 1 ≤ sizeLine; decide, fun l2 h2 => ?_⟩⟩
      have n1 := (Same.refl Ha).new (o := .tup [V.str "zz", V.str "zy"]) h1
      have n2 := n1.new (o := .lst [V.ref p1]) h2
      refine ⟨pa, l2, _, _, rfl, rfl, n2 _ _ hpa, upd_same, lt_line (by rw [List.length_map]; show _ + 1 ≤ _; have := ft.few; omega), fun l3 h3 => ?_⟩
      have n3 := n2.new (o := .lst (ta.map V.ref ++ [V.ref p1])) h3
      have p13 := (((Same.refl _).new h2).new (o := .lst (ta.map V.ref ++ [V.ref p1])) h3) _ _ (upd_same (H := Ha) (a := p1) (o := .tup [V.str "zz", V.str "zy"]))
      refine ⟨l3, ta ++ [p1], idK ys ++ [((Sum.inr "zz" : Key), V.str "zy")], rfl, SqL.of (by rw [upd_same, List.map_append]; rfl), Paired.snoc (Paired.mono (fun (a : Addr) (b : Key × V) (hab : Ha a = some (.tup [kV b.1, b.2])) => SqT.of (n3 _ _ hab)) pra) (SqT.of p13), fun p6 h6 => ?_⟩
      have zz : ("zz" : Str) ∉ ys := fun z => by
        have := abc _ ((ia.2.2.1 _).mp z)
        revert this
        decide +kernel
      have em : mergeK [] (idK ys ++ [((Sum.inr "zz" : Key), V.str "zy")]) = idK ys ++ [((Sum.inr "zz" : Key), V.str "zy")] := mergeK_self (by
        rw [List.map_append, List.nodup_append]
        refine ⟨keys_nodup ia.1, by simp, fun a ha b hb e => ?_⟩
        rw [List.mem_singleton.mp hb] at e
        rw [List.map_map] at ha
        obtain ⟨y, hy, rfl⟩ := List.mem_map.mp ha
        exact zz (Sum.inr.inj e ▸ hy))
      rw [em]
      have n6 := n3.new (o := .dK (idK ys ++ [((Sum.inr "zz" : Key), V.str "zy")])) h6
      have f6 : upd (upd (upd (upd Ha p1 (.tup [V.str "zz", V.str "zy"])) l2 (.lst [V.ref p1])) l3 (.lst (ta.map V.ref ++ [V.ref p1]))) p6 (.dK (idK ys ++ [((Sum.inr "zz" : Key), V.str "zy")])) p6 = some (.dK (idK ys ++ [((Sum.inr "zz" : Key), V.str "zy")])) := upd_same
      generalize upd (upd (upd (upd Ha p1 (.tup [V.str "zz", V.str "zy"])) l2 (.lst [V.ref p1])) l3 (.lst (ta.map V.ref ++ [V.ref p1]))) p6 (.dK (idK ys ++ [((Sum.inr "zz" : Key), V.str "zy")])) = G1 at n6 f6 ⊢
      have s6 : Same H4 G1 := (s0.trans sa).trans n6
      refine ⟨dn, _, s6 _ _ hdn, trivial, fun od => ?_⟩
      refine ⟨.ref dn, rfl, dn, od, rfl, .inl ⟨_, upd_same, fun D hD => lc_keys (kvs := idK ys) (fun i H' => PairsL (upd G1 dn (.frz od (.dK (idK ys)))) D ((ys.take i).map fun y => ((Sum.inr y : Key), V.str "")) H') (by rw [List.take_zero]; exact PairsL.start hD) (fun i H' _ hP => by obtain ⟨_, _, _, s⟩ := hP; exact s _ _ upd_same) (fun i k v H' hy hP => ?_) (fun H' hP => ?_)⟩⟩
      · have io := lt_of_get hy
        rw [List.length_map] at io
        rw [List.getElem?_map, List.getElem?_eq_getElem io] at hy
        cases hy
        refine ⟨rfl, tyes ⟨.str ys[i], rfl, by show 2 ≤ sizeLine; decide, fun p hp => ?_⟩⟩
        have st := hP.step ((Sum.inr ys[i] : Key), V.str "") hD hp (by rw [List.length_map, List.length_take]; have := ft.few; omega)
        rw [take_next (List.getElem?_eq_getElem io), List.map_append]
        exact st
      · rw [List.length_map, List.take_length] at hP
        obtain ⟨ps, h1, h2, s7⟩ := unlock_pairs hP (s6 _ _ hdn) hD
        obtain ⟨_, _, _, sF⟩ := hP
        refine ⟨sF _ _ upd_same, D, ps, _, rfl, SqL.of h1, Paired.mono (fun _ _ h => SqT.of h) h2, fun p7 hp7 => ?_⟩
        rw [mergeK_self (keys_nodup ia.1)]
        have s8 := s7.new (o := .dK (ys.map fun y => ((Sum.inr y : Key), V.str ""))) hp7
        have f8 : upd (upd H' dn (.dK (idK ys))) p7 (.dK (ys.map fun y => ((Sum.inr y : Key), V.str ""))) p7 = some (.dK (ys.map fun y => ((Sum.inr y : Key), V.str ""))) := upd_same
        generalize upd (upd H' dn (.dK (idK ys))) p7 (.dK (ys.map fun y => ((Sum.inr y : Key), V.str ""))) = G2 at s8 f8 ⊢
        refine ⟨by show 6 ≤ sizeLine; decide, fun lw hlw => ?_⟩
        have s9 := (Same.refl G2).new (o := .lst [.non, .ref p0, .int 0, .str "a", .ref p6, .ref p7]) hlw
        refine k _ _ ⟨lw, _, rfl, upd_same, rfl, fun x hx => ?_, (s6.trans s8).trans s9⟩
        simp only [List.mem_cons, List.not_mem_nil, or_false] at hx
        rcases hx with rfl | rfl | rfl | rfl | rfl | rfl
        · exact .non
        · exact .list (s9 _ _ (s8 _ _ (n6 _ _ (sa _ _ f0))))
        · exact .zero
        · exact .word
        · exact wrong_more ia ft (s9 _ _ (s8 _ _ f6))
        · exact wrong_const ia (.inl ⟨"", rfl, by decide +kernel, by decide +kernel⟩) (by decide +kernel) (s9 _ _ f8)
    rintro _ H5 ⟨lw, xs, rfl, hlw, lxs, hxs, s5⟩
    have d5 := d4.same s5
    have hdn5 := s5 _ _ hdn
    have b1 := b1.ext (.of s5)
    have b2 := b2.ext (.of s5)
    have b3 : CntV t.ins.length (.ref bx) H5 cnt := b3.imp id fun h => ⟨h.1.imp fun _ z => z.ext (.of s5), h.2⟩
    have ht5 := IsT.same s5 t _ ht4
    have T5 := T4.ext s5
    refine cut_set (fun v H' => WrongV ys H' v ∧ H' dn = some (.dK (idK ys)) ∧ Ext d H5 H' ∧ IsDice H' d) (fun Q' k => ?_) ?_
    · refine ⟨.ref d, rfl, .ref lw, rfl, ?_⟩
      refine ⟨.ref dn, rfl, dn, _, rfl, hdn5, fun Ha pa ta sa npa nta pta hpa pra => ?_⟩
      have sa : Same H5 Ha := sa
      have lta := Paired.length pra
      rw [List.length_map] at lta
      have pos : 1 ≤ ys.length := List.length_pos_iff.mpr (atoms_ne ia)
      refine ⟨1, rfl, pa, _, rfl, SqL.of hpa, fun p1 h1 => ?_⟩
      rw [cut_tail (by rw [List.length_map]; omega)]
      have n1 := (Same.refl Ha).new (o := .lst ((ta.map V.ref).drop 1)) h1
      refine ⟨p1, ta.drop 1, (idK ys).drop 1, rfl, SqL.of (by rw [upd_same, List.map_drop]), Paired.mono (fun (a : Addr) (b : Key × V) (hab : Ha a = some (.tup [kV b.1, b.2])) => SqT.of (n1 _ _ hab)) (paired_drop 1 pra), fun p6 h6 => ?_⟩
      have em : mergeK [] ((idK ys).drop 1) = (idK ys).drop 1 := mergeK_self (by
        rw [List.map_drop]
        exact (keys_nodup ia.1).sublist (List.drop_sublist _ _))
      rw [em]
      have n6 := n1.new (o := .dK ((idK ys).drop 1)) h6
      have f6 : upd (upd Ha p1 (.lst ((ta.map V.ref).drop 1))) p6 (.dK ((idK ys).drop 1)) p6 = some (.dK ((idK ys).drop 1)) := upd_same
      generalize upd (upd Ha p1 (.lst ((ta.map V.ref).drop 1))) p6 (.dK ((idK ys).drop 1)) = G1 at n6 f6 ⊢
      have s6 : Same H5 G1 := sa.trans n6
      refine ⟨dn, _, s6 _ _ hdn5, trivial, fun od => ?_⟩
      refine ⟨.ref dn, rfl, dn, od, rfl, .inl ⟨_, upd_same, fun D hD => lc_keys (kvs := idK ys) (fun i H' => PairsL (upd G1 dn (.frz od (.dK (idK ys)))) D ((ys.take i).map fun y => ((Sum.inr y : Key), V.int 0)) H') (by rw [List.take_zero]; exact PairsL.start hD) (fun i H' _ hP => by obtain ⟨_, _, _, s⟩ := hP; exact s _ _ upd_same) (fun i k v H' hy hP => ?_) (fun H' hP => ?_)⟩⟩
      · have io := lt_of_get hy
        rw [List.length_map] at io
        rw [List.getElem?_map, List.getElem?_eq_getElem io] at hy
        cases hy
        refine ⟨rfl, tyes ⟨.str ys[i], rfl, by show 2 ≤ sizeLine; decide, fun p hp => ?_⟩⟩
        have st := hP.step ((Sum.inr ys[i] : Key), V.int 0) hD hp (by rw [List.length_map, List.length_take]; have := ft.few; omega)
        rw [take_next (List.getElem?_eq_getElem io), List.map_append]
        exact st
      · rw [List.length_map, List.take_length] at hP
        obtain ⟨ps, h1, h2, s7⟩ := unlock_pairs hP (s6 _ _ hdn5) hD
        obtain ⟨_, _, _, sF⟩ := hP
        refine ⟨sF _ _ upd_same, D, ps, _, rfl, SqL.of h1, Paired.mono (fun _ _ h => SqT.of h) h2, fun p7 hp7 => ?_⟩
        rw [mergeK_self (keys_nodup ia.1)]
        have s8 := s7.new (o := .dK (ys.map fun y => ((Sum.inr y : Key), V.int 0))) hp7
        have f8 : upd (upd H' dn (.dK (idK ys))) p7 (.dK (ys.map fun y => ((Sum.inr y : Key), V.int 0))) p7 = some (.dK (ys.map fun y => ((Sum.inr y : Key), V.int 0))) := upd_same
        generalize upd (upd H' dn (.dK (idK ys))) p7 (.dK (ys.map fun y => ((Sum.inr y : Key), V.int 0))) = G2 at s8 f8 ⊢
        have s28 := s6.trans s8
        refine ⟨by show 2 ≤ sizeLine; decide, fun l2 h2 => ?_⟩
        have s9 := (Same.refl G2).new (o := .lst [V.ref p6, V.ref p7]) h2
        refine ⟨lw, l2, xs, _, rfl, rfl, s9 _ _ (s28 _ _ hlw), upd_same, lt_line (by rw [lxs]; show 6 + 2 ≤ _; omega), fun l3 h3 => ?_⟩
        have s10 := s9.new (o := .lst (xs ++ [V.ref p6, V.ref p7])) h3
        have sA := s28.trans s10
        have dA := d5.same sA
        have nl3 : l3 ≠ d := (d5.same (s28.trans s9)).ne h3
        refine ⟨d, l3, _, rfl, dA, .inl (.inl upd_same), nl3, (fun z => by have := congrArg List.length z; rw [List.length_append] at this; cases this), by rw [List.length_append, lxs]; show 6 + 2 < 1000000; decide, fun v Hz hv e2 d2 => k _ _ ⟨?_, ?_, ?_, d2⟩⟩
        · refine WrongV.roll (H := upd (upd G2 l2 (.lst [V.ref p6, V.ref p7])) l3 (.lst (xs ++ [V.ref p6, V.ref p7]))) e2 dA d2 ?_
          rcases List.mem_append.mp hv with hv | hv
          · exact (hxs _ hv).ext (.of sA)
          · simp only [List.mem_cons, List.not_mem_nil, or_false] at hv
            rcases hv with rfl | rfl
            · exact wrong_less ia ft (s10 _ _ (s8 _ _ f6))
            · exact wrong_const ia (.inr ⟨0, rfl⟩) rfl (s10 _ _ f8)
        · exact roll_at e2 dA (sA _ _ hdn5) fun _ z => nomatch z
        · exact fun b o n h => e2 b o n (sA _ _ h)
    rintro wr H6 ⟨b4, hdn6, e6, d6⟩
    have e6 : Ext d H5 H6 := e6
    have b1 := b1.roll e6 d5
    have b2 := b2.roll e6 d5 d6
    have b3 : CntV t.ins.length (.ref bx) H6 cnt := b3.imp id fun h => ⟨h.1.imp fun _ z => z.roll e6 d5 d6, h.2⟩
    have ht6 := IsT.held ((ExtL.of e6).held d5) t _ ht5
    have T6 := tabs_ext T5 d5 e6
    have gd := b1.good l16
    have oddT : ∀ {S : String} {v : V} {H : Hp}, KindV H v S → PySem.W.kitOne K (.type S) (.ref C_Type) = some false := fun h => by
      obtain ⟨_, _, _, _, sb⟩ := OS.t _ h.mem
      exact odd_of T.k_Type.hd tyC sb
    have at6 : ∀ G, LamX.ExtN H6 G → ∃ dxG fs, IsT C_Type G t (.ref bx) ∧ G bx = some (.ins C_Type dxG fs) ∧ fs.lookup ("renamed" : Str) = none := fun G e => by
      have htG := IsT.held (extN_held e) t _ ht6
      obtain ⟨_, dxG, _, _, _, exG, hbG, _⟩ := id htG.at
      cases exG
      exact ⟨dxG, _, htG, hbG, rfl⟩
    refine tell_first ("number " ++ Di.shown) T6 (fun G e Q' k => ?_) fun L G1 g1 => ?_
    · obtain ⟨dxG, _, htG, hbG, _⟩ := at6 G e
      have bG := b1.ext e
      obtain ⟨S, bk⟩ := bG.kind
      exact ⟨.ref bx, rfl, idx, rfl, bx, dxG, _, rfl, hbG, _, _, t, Di, rfl, htG, by omega, bk.valI, bG.out l16, bG.dye, gd, fun dx H' r => x7.num r gd (k H' r.choose_spec.2.2.1)⟩
    refine tell_next "operation" g1 rfl (by show 1 ≤ 100; decide) (fun G e Q' k => ?_) fun G2 g2 => ?_
    · obtain ⟨dxG, _, htG, hbG, _⟩ := at6 G e
      have bG := b2.ext e
      exact ⟨.ref bx, rfl, nn, rfl, bx, dxG, _, S2, rfl, hbG, bG.mem, bG.tyx G (Same.refl G), _, _, rfl, ⟨t, htG⟩, ⟨_, bG.tyx G (Same.refl G), oddT bG⟩, x7.op (k G (Same.refl G))⟩
    refine tell_next "operation" g2 rfl (by show 2 ≤ 100; decide) (fun G e Q' k => ?_) fun G3 g3 => ?_
    · obtain ⟨dxG, _, htG, hbG, _⟩ := at6 G e
      refine ⟨.ref bx, rfl, cnt, rfl, ?_⟩
      rcases b3 with rfl | ⟨⟨S, bk⟩, out⟩
      · exact .inr ⟨bx, dxG, _, bx, dxG, _, rfl, rfl, hbG, hbG, _, _, t, rfl, htG, by omega, fun H' s => .inr (.inr ⟨_, tyx_made T htG H' s, N7.none (by decide), rfl⟩), .inl rfl, fun H' s => x7.op (k H' s)⟩
      · have bG := bk.ext e
        exact .inl ⟨bx, dxG, _, S, rfl, hbG, bG.mem, bG.tyx G (Same.refl G), _, _, t, rfl, htG, by omega, bG.valI, out, fun H' s => x7.op (k H' s)⟩
    refine tell_next "operation" g3 rfl (by show 3 ≤ 100; decide) (fun G e Q' k => ?_) fun G4 g4 => ?_
    · obtain ⟨dxG, _, htG, hbG, no⟩ := at6 G e
      exact ⟨.ref bx, rfl, bx, dxG, _, rfl, hbG, no, wr, rfl, _, _, t, rfl, htG, ft, (b4.ext e).alt ia, fun H' s => x7.op (k H' s)⟩
    refine tell_next "fine" g4 rfl (by show 4 ≤ 100; decide) (fun G e Q' k => ?_) fun G5 g5 => ?_
    · obtain ⟨dxG, _, htG, hbG, no⟩ := at6 G e
      have hN : IsN G dn (ys.map fun y => (y, y)) := by
        have z := e _ _ hdn6 fun _ z => nomatch z
        unfold IsN
        rw [z, List.map_map]
        rfl
      have low := ft.low
      exact ⟨.ref bx, rfl, bx, dxG, _, rfl, hbG, no, .ref dn, rfl, _, t, dn, _, id, rfl, htG, hN, fun zs iz => by rw [List.length_map]; exact ia.len iz, fun x hx => ⟨look_self ((ia.2.2.1 x).mpr hx), ft.words x hx⟩, by omega, ft, fun x H' s _ => k H' s⟩
    have dz := (b1.ext g5.far).dye.dz (K := K)
    have l7 : ("number " : Str).length = 7 := by decide
    refine ⟨.ref L, rfl, idx, rfl, idx, Di, rfl, dz, gd.1, by have := gd.2.1; omega, Nat.le_trans gd.2.2 (by decide), "number ", Di.shown, rfl, rfl, by rw [sizeLine_eq]; have := gd.2.2; omega, by show 5 ≤ sizeLine; decide, fun p hp => ?_⟩
    have okw : ((["number " ++ Di.shown, "operation", "operation", "operation", "fine"] : List Str).all fun w => PyData.strOk w) = true := by
      rw [List.all_cons, b1.textOk l16]
      decide +kernel
    refine told_same ["number " ++ Di.shown, "operation", "operation", "operation", "fine"] g5.at_ hp (fun s8 => ?_) okw
    have far := g5.far.trans (.of s8)
    exact q _ ((((((((ExtL.of e1).trans (.of e2)).trans (.of e3)).trans (.same s4)).trans (.same s5)).trans (.of e6))).trans (.extN far)) (d6.extN far) (g5.tabs.ext s8)
end


end My
namespace My
open PySem PySem.Spec PyProof.Rows L2 TL
set_option pp.maxSteps 3000
set_option pp.deepTerms false
/-! ### the law -/
theorem passE0 {X : Cx} : Passes (L2.CX X.prog X.w) X E0 := fun _ _ _ _ _ _ _ c => by
  obtain ⟨_, _, _, _, _, _, _, _, _, _, _, _, no⟩ := c
  exact no.elim
theorem sql_extN {K : PySem.W.Frag} {H H' : Hp} {a : Addr} {xs : List V} (e : LamX.ExtN H H') (h : SqL K H a xs) : SqL K H' a xs := by
  rcases h with (h | ⟨o, h⟩) | h
  · exact .inl (.inl (e _ _ h fun _ z => nomatch z))
  · exact .inl (.inr ⟨o, e _ _ h fun _ z => nomatch z⟩)
  · exact .inr h
theorem extN_of {d : Addr} {H H1 H2 : Hp} (a : LamX.ExtN H H1) (n : H1 d = none) (o : HO) (b : ExtL d (upd H1 d o) H2) : LamX.ExtN H H2 := fun c u h t => by
  have h1 := a c u h t
  have ne := ne_of_none h1 n
  exact b c u ne t (by rw [upd_ne ne]; exact h1)
theorem cells8 {n : Nat} (h : n ≤ 63) : ∀ j : Int, j = (if (if (n : Int) < 8 then (n : Int) else 8) > 1 then (if (n : Int) < 8 then (n : Int) else 8) else 1) → 1 ≤ j ∧ j ≤ 8 := by
  intro j e
  by_cases h1 : (n : Int) < 8
  · rw [if_pos h1] at e
    by_cases h2 : (n : Int) > 1
    · rw [if_pos h2] at e
      omega
    · rw [if_neg h2] at e
      omega
  · rw [if_neg h1, if_pos (by decide)] at e
    omega
theorem abc7 : ∀ a ∈ (["a", "b", "c"] : List Str), isW (.str a) = true ∧ ∀ c ∈ a.cps.toList, c < 128 := fun a ha => by
  simp only [List.mem_cons, List.not_mem_nil, or_false] at ha
  rcases ha with rfl | rfl | rfl <;> exact ⟨by decide +kernel, by decide +kernel⟩
abbrev tA7 : Ty := .mk [] "a"
abbrev tAA7 : Ty := .mk [tA7] "a"
abbrev tX7 : Ty := .mk [tAA7] "a"
abbrev tDeep : Ty := .mk [.mk [tX7] "a"] "a"
abbrev tWide : Ty := .mk (List.replicate 14 tA7) "a"
abbrev tWideB : Ty := .mk (List.replicate 14 tA7) "b"
theorem few_fits {t : Ty} (w : (t.places.all fun x => isW (.str x) && x.cps.toList.all fun c => decide (c < 128)) = true) (n : t.places.length ≤ 15) (o : t.order ≤ 4) : t.Fits := ⟨fun a ha => by
  have := List.all_eq_true.mp w a ha
  rw [Bool.and_eq_true] at this
  exact ⟨this.1, fun c hc => of_decide_eq_true (List.all_eq_true.mp this.2 c hc)⟩, n, o⟩
theorem fitA7 : tA7.Fits := few_fits (by decide +kernel) (by decide +kernel) (by decide +kernel)
theorem fitAA7 : tAA7.Fits := few_fits (by decide +kernel) (by decide +kernel) (by decide +kernel)
theorem fitX7 : tX7.Fits := few_fits (by decide +kernel) (by decide +kernel) (by decide +kernel)
theorem fitDeep : tDeep.Fits := few_fits (by decide +kernel) (by decide +kernel) (by decide +kernel)
theorem fitWide : tWide.Fits := few_fits (by decide +kernel) (by decide +kernel) (by decide +kernel)
theorem fitWideB : tWideB.Fits := few_fits (by decide +kernel) (by decide +kernel) (by decide +kernel)
theorem xAA7 : tAA7.text = ("a -> a" : Str) := by decide +kernel
theorem xX7 : tX7.text = ("(a -> a) -> a" : Str) := by decide +kernel
theorem xDeep : tDeep.text = ("(((a -> a) -> a) -> a) -> a" : Str) := by decide +kernel
theorem xWide : tWide.text = repT "a -> " 14 ++ "a" := by decide +kernel
theorem no1 : ¬ (Ty.mk (tA7 :: tWide.ins) tWide.atom).Fits := fun f => absurd f.few (by decide +kernel)
theorem no2 : ¬ (Ty.mk [tWide] "a").Fits := fun f => absurd f.few (by decide +kernel)
theorem no3 : ¬ (Ty.mk [tDeep] "a").Fits := fun f => absurd f.low (by decide +kernel)
theorem no5 : ¬ (Ty.put "a" tAA7 tWide).Fits := fun f => absurd f.few (by decide +kernel)
theorem no6 : ¬ (Ty.put "a" tX7 tDeep).Fits := fun f => absurd f.low (by decide +kernel)
theorem text_inj {t u : Ty} (ft : t.Fits) (fu : u.Fits) (e : t.text = u.text) : t = u := by
  have h1 := due_iff.mpr ⟨ft, e⟩
  have h2 := due_iff.mpr ⟨fu, rfl⟩
  rw [h1] at h2
  exact Option.some.inj h2
theorem read_use {K : PySem.W.Frag} {C CP : Addr} {H : Hp} {Q : VK} {E : XK} {t : Ty} {x : Str} (ft : t.Fits) (ex : t.text = x) (p : Plain 150 x) (q : Made C H Q t) : sp_Type_readX K C CP [.ref C, .str x] H Q E :=
  ⟨x, rfl, p, fun u fu eu => by rw [text_inj fu ft (eu.trans ex.symm)]; exact q, fun no => absurd ex (no t ft)⟩
theorem ins_at {C : Addr} {H : Hp} {t : Ty} {x : Addr} (h : IsT C H t (.ref x)) : ∃ dx p fs rs, H x = some (.ins C dx fs) ∧ fs.lookup ("put" : Str) = none ∧ fs.lookup ("_inputs" : Str) = some (.ref p) ∧ H p = some (.tup rs) ∧ IsTs C H t.ins rs := by
  obtain ⟨_, dx, p, q, rs, ex, hb, hp, hl, _⟩ := h.at
  cases ex
  exact ⟨dx, p, _, rs, hb, rfl, rfl, hp, hl⟩
theorem partsW : Parts [tWide] "a" := ⟨fun t ht => by rw [List.mem_singleton.mp ht]; exact fitWide, by decide, by decide +kernel, by decide +kernel⟩
theorem partsD : Parts [tDeep] "a" := ⟨fun t ht => by rw [List.mem_singleton.mp ht]; exact fitDeep, by decide, by decide +kernel, by decide +kernel⟩
theorem partsB : Parts tWide.ins "b" := ⟨fun t ht => by rw [List.eq_of_mem_replicate ht]; exact fitA7, by decide, by decide +kernel, by decide +kernel⟩
abbrev lamW : Str := ("law" : Str) ++ ".<locals>." ++ "<lambda>"
def sp_law7 (Ts : List (Addr × Str)) (K : PySem.W.Frag) : Sp := fun vs H Q _ => ∃ (a : Addr) (ns : List Int), vs = [.ref a] ∧ SqL K H a (ns.map V.int) ∧ ns.length ≤ 63 ∧ LamX.Tabs Ts H ∧ ∀ H', Q (.bl true) H'
section
variable {P : Program} {w : World} {K : PySem.W.Frag} {mg : Str → Option Value} {base : Heap} {C_Type CT CW CO CN CP : Addr} {Ts : List (Addr × Str)}
theorem ok_law7 (T : Txt K mg C_Type) (e_ref : Ref7 K mg CT CW CO CN CP) (x7 : Exm7 K CT CW CO CN CP) (c__law_dice : CalN P w K mg base "_law_dice" 1 ["_law_script", "_law_spot"] (sp__law_dice K)) (c__law_kind : CalN P w K mg base "_law_kind" 39 ["_law_dice_here", "_law_atoms", "_law_order", "_law_most"] (sp__law_kind K)) (c__law_made_kind : CalN P w K mg base "_law_made_kind" 12 ["_law_kind_here"] (sp__law_made_kind K C_Type)) (c__law_roll : CalN P w K mg base "_law_roll" 1 ["_law_dice_here", "_law_total"] (sp__law_roll K)) (p_Type_text : PrpC P w K mg base C_Type "text" 1 ["self"] (getSp C_Type "_text")) (p_Type_inputs : PrpC P w K mg base C_Type "inputs" 1 ["self"] (getSp C_Type "_inputs")) (c__law_text : CalN P w K mg base "_law_text" 7 ["_law_kind_here"] (sp__law_text K))
    (k_Type_plain : CmtC P w K mg base C_Type "plain" 6 ["cls", "atom"] (sp_Type_plain K C_Type)) (kR : CmtY (L2.CX P w) P w K mg base C_Type "read" 18 ["cls", "text"] (sp_Type_readX K C_Type CP)) (mX : MetX P w K mg base C_Type "__rshift__" 6 ["self", "other"] (sp_Type_rshX K C_Type CT)) (iX : MakX P w K mg base C_Type 4 ["self", "inputs", "atom"] (sp_Type_initX K C_Type CT))
    (pX : MetX P w K mg base C_Type "put" 12 ["self", "atom", "other"] (spr_Type_putX 6 K C_Type CT)) (c__law_made_wrongly : Cal P w K mg base "_law_made_wrongly" 21 ["_law_dice_here", "_law_made"] (sp__law_made_wrongly Ts K C_Type)) (c__law_asked_wrongly : Cal P w K mg base "_law_asked_wrongly" 21 ["_law_dice_here", "_law_made"] (sp__law_asked_wrongly Ts K C_Type))
    {g : Addr} {fdg : FuncData} (F__law_refusal : Fun K "_law_refusal" "_law_refusal" s__law_refusal g fdg) (M__law_refusal : mg "_law_refusal" = some (.ref g)) (B__law_refusal : L2.Binds K fdg ["_law_call"] [])
    {c PT : Addr} (TB : LamX.TabB base mg c PT) (inT : (PT, lamW) ∈ Ts) (just : ∀ p ∈ Ts, p.1 = PT → p.2 = lamW) {f : Addr} {fd : FuncData} (F : Fun K "law" "law" s_law f fd) (hcd : fd.code = .ref c) : FnOkG P w K mg base CX0 42 f fd ["_law_script"] (sp_law7 Ts K) := by
  have nd := sc_law.nd
  refine F.okGC sc_law (fun vs H Q E h => ?_) (fun A outer s H vs Q E hr hG h => ?_)
  · obtain ⟨a, ns, rfl, _⟩ := h
    rfl
  · obtain ⟨a, ns, rfl, hS, hn, hT, q⟩ := h
    refine ⟨_, (pss_cons (ps_for PassesOwn.never rfl (pi_range1 (by rfl) T.b_range (pa_cons (pe_callB (call_max2 rfl) (by rfl) T.b_max (by decide +kernel) (pa_cons pe_int (pa_cons (pe_callB (call_min2 rfl) (by rfl) T.b_min (by decide +kernel) (pa_cons pe_int (pa_cons (pe_callB call_len (by rfl) T.b_len (by decide +kernel) (pa_cons (pv 0) pa_nil)) pa_nil))) pa_nil))) pa_nil)) (pg_name (i := 1) nd rfl (.inl rfl)) (pss_cons (ps_set (i := 2) nd rfl (.inl rfl) (pe_callN c__law_dice (hr.mono (by first | decide | omega)) rfl (pa_cons (pv 0) (pa_cons (pv 1) pa_nil))))
      (pss_cons (ps_set (i := 3) nd rfl (.inl rfl) (pe_callN c__law_kind (hr.mono (by first | decide | omega)) rfl (pa_cons (pv 2) (pa_cons (pe_lst (pa_cons pe_str (pa_cons pe_str (pa_cons pe_str pa_nil)))) (pa_cons (pe_callN c__law_roll (hr.mono (by first | decide | omega)) rfl (pa_cons (pv 2) (pa_cons pe_int pa_nil))) (pa_cons pe_int pa_nil))))))
      (pss_cons (ps_set (i := 4) nd rfl (.inl rfl) (pe_callN c__law_made_kind (hr.mono (by first | decide | omega)) rfl (pa_cons (pv 3) pa_nil)))
      (pss_one (ps_for PassesOwn.never rfl (pi_range1 (by rfl) T.b_range (pa_cons pe_int pa_nil)) (pg_name (i := 5) nd rfl (.inl rfl)) (pss_cons (ps_if (PW.pt (pw_or (pt_not (pt_truth (pe_callC c__law_made_wrongly (hr.mono (by first | decide | omega)) hG rfl (pa_cons (pv 2) (pa_cons (pv 4) pa_nil))) (by intro _; rfl))) (pw_or1 (pt_not (pt_truth (pe_callC c__law_asked_wrongly (hr.mono (by first | decide | omega)) hG rfl (pa_cons (pv 2) (pa_cons (pv 4) pa_nil))) (by intro _; rfl)))))) (pss_one (ps_ret pe_bl)) pss_nil)
      (pss_one (ps_if (pt_cmpR op_ne (pe_propC p_Type_text T.k_Type (hr.mono (by first | decide | omega)) (pv 4)) (pe_callN c__law_text (hr.mono (by first | decide | omega)) rfl (pa_cons (pv 3) pa_nil)) (nomark _)) (pss_one (ps_ret pe_bl)) pss_nil)))))))))
      (pss_cons (ps_asg (pe_tup (pa_cons (pe_cmethY kR (hr.mono (by first | decide | omega)) passE0 (pe_glob (v := .ref C_Type) rfl T.c_Type rfl) (pa_cons (pe_op op_add_str (pe_op op_repT pe_str pe_int) pe_str) pa_nil)) (pa_cons (pe_cmethY kR (hr.mono (by first | decide | omega)) passE0 (pe_glob (v := .ref C_Type) rfl T.c_Type rfl) (pa_cons pe_str pa_nil)) pa_nil))) (pg_tup (by rfl) (pgs_cons (pg_name (i := 6) nd rfl (.inr rfl)) (pgs_cons (pg_name (i := 7) nd rfl (.inr rfl)) pgs_nil))))
      (pss_cons (ps_set (i := 8) nd rfl (.inl rfl) (pe_lst (pa_cons (pe_ref7 (k := 18) hG F__law_refusal M__law_refusal B__law_refusal e_ref inT just TB hcd (hr.mono (by first | decide | omega)) (LamX.lamS_by (sc := defScope s_law) (by decide +kernel)) rfl (fun _ _ _ _ _ => rfl) (fun A outer s H E f c2 gs hr2 => (pe_op (op_ownX (op := .RShift) (C := C_Type) (sp := sp_Type_rshX K C_Type CT) (E := E) mX (hr2.mono (by first | decide | omega)) T.x_Type.first (passes_call (takes_of rfl rfl rfl rfl) fun _ _ _ _ h => h)) (pe_cmethC k_Type_plain (hr2.mono (by first | decide | omega)) (pe_glob (v := .ref C_Type) rfl T.c_Type rfl) (pa_cons pe_str pa_nil)) (pv 6)))) pa_nil)))
      (pss_cons (ps_expr (pe_bm PySem.F.plainAttrs_list PySem.F.slot_list_append PySem.F.type_list_append mt_append (pv 8) (pa_cons (pe_ref7 (k := 18) hG F__law_refusal M__law_refusal B__law_refusal e_ref inT just TB hcd (hr.mono (by first | decide | omega)) (LamX.lamS_by (sc := defScope s_law) (by decide +kernel)) rfl (fun _ _ _ _ _ => rfl) (fun A outer s H E f c2 gs hr2 => (pe_makeX iX (hr2.mono (by first | decide | omega)) rfl T.c_Type (passes_call (takes_of rfl rfl rfl rfl) fun _ _ _ _ h => h) (pa_cons (pe_tup (pa_cons (pv 6) pa_nil)) (pa_cons pe_str pa_nil))))) pa_nil)))
      (pss_cons (ps_expr (pe_bm PySem.F.plainAttrs_list PySem.F.slot_list_append PySem.F.type_list_append mt_append (pv 8) (pa_cons (pe_ref7 (k := 18) hG F__law_refusal M__law_refusal B__law_refusal e_ref inT just TB hcd (hr.mono (by first | decide | omega)) (LamX.lamS_by (sc := defScope s_law) (by decide +kernel)) rfl (fun _ _ _ _ _ => rfl) (fun A outer s H E f c2 gs hr2 => (pe_makeX iX (hr2.mono (by first | decide | omega)) rfl T.c_Type (passes_call (takes_of rfl rfl rfl rfl) fun _ _ _ _ h => h) (pa_cons (pe_tup (pa_cons (pv 7) pa_nil)) (pa_cons pe_str pa_nil))))) pa_nil)))
      (pss_cons (ps_expr (pe_bm PySem.F.plainAttrs_list PySem.F.slot_list_append PySem.F.type_list_append mt_append (pv 8) (pa_cons (pe_ref7 (k := 18) hG F__law_refusal M__law_refusal B__law_refusal e_ref inT just TB hcd (hr.mono (by first | decide | omega)) (LamX.lamS_by (sc := defScope s_law) (by decide +kernel)) rfl (fun _ _ _ _ _ => rfl) (fun A outer s H E f c2 gs hr2 => (pe_op (op_ownX (op := .RShift) (C := C_Type) (sp := sp_Type_rshX K C_Type CT) (E := E) mX (hr2.mono (by first | decide | omega)) T.x_Type.first (passes_call (takes_of rfl rfl rfl rfl) fun _ _ _ _ h => h)) (pv 7) (pe_cmethC k_Type_plain (hr2.mono (by first | decide | omega)) (pe_glob (v := .ref C_Type) rfl T.c_Type rfl) (pa_cons pe_str pa_nil))))) pa_nil)))
      (pss_cons (ps_expr (pe_bm PySem.F.plainAttrs_list PySem.F.slot_list_append PySem.F.type_list_append mt_append (pv 8) (pa_cons (pe_ref7 (k := 18) hG F__law_refusal M__law_refusal B__law_refusal e_ref inT just TB hcd (hr.mono (by first | decide | omega)) (LamX.lamS_by (sc := defScope s_law) (by decide +kernel)) rfl (fun _ _ _ _ _ => rfl) (fun A outer s H E f c2 gs hr2 => (pe_methX pX T.k_Type (hr2.mono (by first | decide | omega)) (passes_call (takes_of rfl rfl rfl rfl) fun _ _ _ _ h => h) (pv 6) (pa_cons pe_str (pa_cons (pe_cmethY kR (hr2.mono (by first | decide | omega)) (passes_call (takes_of rfl rfl rfl rfl) fun _ _ _ _ h => h) (pe_glob (v := .ref C_Type) rfl T.c_Type rfl) (pa_cons pe_str pa_nil)) pa_nil))))) pa_nil)))
      (pss_cons (ps_expr (pe_bm PySem.F.plainAttrs_list PySem.F.slot_list_append PySem.F.type_list_append mt_append (pv 8) (pa_cons (pe_ref7 (k := 18) hG F__law_refusal M__law_refusal B__law_refusal e_ref inT just TB hcd (hr.mono (by first | decide | omega)) (LamX.lamS_by (sc := defScope s_law) (by decide +kernel)) rfl (fun _ _ _ _ _ => rfl) (fun A outer s H E f c2 gs hr2 => (pe_methX pX T.k_Type (hr2.mono (by first | decide | omega)) (passes_call (takes_of rfl rfl rfl rfl) fun _ _ _ _ h => h) (pv 7) (pa_cons pe_str (pa_cons (pe_cmethY kR (hr2.mono (by first | decide | omega)) (passes_call (takes_of rfl rfl rfl rfl) fun _ _ _ _ h => h) (pe_glob (v := .ref C_Type) rfl T.c_Type rfl) (pa_cons pe_str pa_nil)) pa_nil))))) pa_nil)))
      (pss_cons (ps_expr (pe_bm PySem.F.plainAttrs_list PySem.F.slot_list_append PySem.F.type_list_append mt_append (pv 8) (pa_cons (pe_ref7 (k := 18) hG F__law_refusal M__law_refusal B__law_refusal e_ref inT just TB hcd (hr.mono (by first | decide | omega)) (LamX.lamS_by (sc := defScope s_law) (by decide +kernel)) rfl (fun _ _ _ _ _ => rfl) (fun A outer s H E f c2 gs hr2 => (pe_makeX iX (hr2.mono (by first | decide | omega)) rfl T.c_Type (passes_call (takes_of rfl rfl rfl rfl) fun _ _ _ _ h => h) (pa_cons (pe_propC p_Type_inputs T.k_Type (hr2.mono (by first | decide | omega)) (pv 6)) (pa_cons pe_str pa_nil))))) pa_nil)))
      (pss_one (ps_ret (pe_cmpR (op_eqD hr.units) (pv 8) (pe_op op_cat (pe_op op_rep (pe_lst (pa_cons pe_str pa_nil)) pe_int) (pe_lst (pa_cons pe_str pa_nil))) (nomark _))))))))))))), ?_⟩
    obtain ⟨j1, j2⟩ := cells8 hn _ rfl
    refine cut_for (fun σ' H' => (∃ s1 s2 s3 s4 s5, σ' = [some (.ref a), s1, s2, s3, s4, s5, none, none, none]) ∧ LamX.ExtN H H' ∧ LamX.Tabs Ts H') (fun N hN => ?_) ?_
    · refine ⟨.ref a, rfl, .ref a, _, rfl, .inl ⟨_, hS, rfl⟩, 8, _, rfl, 1, _, rfl, _, rfl, ?_, ?_, ?_⟩
      · rw [List.length_map]
        omega
      · rw [List.length_map]
        omega
      rw [List.length_map]
      refine for_range (lo := 0) (fun i σ H' => (∃ s1 s2 s3 s4 s5, σ = [some (.ref a), s1, s2, s3, s4, s5, none, none, none]) ∧ LamX.ExtN H H' ∧ LamX.Tabs Ts H') ?_ (fun i σ H1 hi hP => ?_) (fun σ H1 hP => ?_)
      · exact ⟨⟨_, _, _, _, _, rfl⟩, LamX.ExtN.refl H, hT⟩
      · obtain ⟨⟨s1, s2, s3, s4, s5, rfl⟩, eN, tb⟩ := hP
        refine ⟨.ref a, rfl, _, rfl, a, ns, _, rfl, sql_extN eN hS, by omega, by omega, fun d o hd dd => ?_⟩
        have sd : Same H1 (upd H1 d o) := (Same.refl H1).new hd
        have t1 := tb.ext sd
        refine ⟨.ref d, rfl, by show 3 ≤ sizeLine; decide, fun la hla => ?_⟩
        have nl : la ≠ d := dd.ne hla
        refine ⟨.ref d, rfl, d, 4, rfl, dd.new hla, by decide, by decide, fun r H2 r0 r1 e2 d2 => ?_⟩
        have er : r = (r.toNat : Int) := (Int.toNat_of_nonneg r0).symm
        refine ⟨d, la, ["a", "b", "c"], r.toNat, 6, by rw [er]; rfl, d2, e2 _ _ nl upd_same, nl, by simp, by decide, by omega, by omega, by decide, by decide, fun kv t H3 hk lo le ins e3 d3 => ?_⟩
        have eA : Ext d (upd H1 d o) H3 := (((Ext.refl _).new (o := .lst [.str "a", .str "b", .str "c"]) hla).trans e2).trans e3
        have t3 := tabs_ext t1 dd eA
        have ft : t.Fits := ⟨fun a ha => abc7 a (ins a ha), by omega, by omega⟩
        refine ⟨kv, rfl, kv, t, rfl, hk, by omega, ft, fun x H4 s4 hx => ?_⟩
        have far4 : ExtL d (upd H1 d o) H4 := (ExtL.of eA).trans (.same s4)
        refine ⟨5, rfl, by decide, by decide, for_range (lo := 0) (fun j σ H' => (∃ s1 s5, σ = [some (.ref a), s1, some (.ref d), some kv, some (.ref x), s5, none, none, none]) ∧ ExtL d (upd H1 d o) H' ∧ IsDice H' d ∧ LamX.Tabs Ts H' ∧ IsT C_Type H' t (.ref x) ∧ IsK H' t kv) ?_ (fun j σ H5 hj hP => ?_) (fun σ H5 hP => ?_)⟩
        · exact ⟨⟨_, _, rfl⟩, far4, d3.same s4, t3.ext s4, hx, IsK.held s4.held _ _ hk⟩
        · obtain ⟨⟨s1, s5, rfl⟩, far5, d5, t5, hx5, hk5⟩ := hP
          refine ⟨.ref d, rfl, .ref x, rfl, d, .ref x, t, rfl, d5, t5, hx5, ft, fun H6 e6 d6 t6 => ?_⟩
          have hx6 := IsT.held (e6.held d5) t _ hx5
          have hk6 := IsK.held (e6.held d5) _ _ hk5
          refine ⟨true, rfl, iteF ?_⟩
          refine ⟨.ref d, rfl, .ref x, rfl, d, .ref x, t, rfl, d6, t6, hx6, ft, ins, fun H7 e7 d7 t7 => ?_⟩
          have hx7 := IsT.held (e7.held d6) t _ hx6
          have hk7 := IsK.held (e7.held d6) _ _ hk6
          refine ⟨true, rfl, iteF (nx_go ?_)⟩
          dsimp only
          obtain ⟨_, dx7, _, _, _, ex7, b7, _⟩ := id hx7.at
          cases ex7
          refine ⟨.ref x, rfl, x, dx7, _, rfl, b7, x, dx7, _, .str t.text, rfl, b7, rfl, kv, rfl, kv, t, rfl, hk7, by omega, ft, fun H8 s8 => ⟨rfl, false, congrArg V.bl (by simp), iteF ?_⟩⟩
          exact ⟨⟨_, _, rfl⟩, ((far5.trans e6).trans e7).trans (.same s8), d7.same s8, t7.ext s8, IsT.same s8 t _ hx7, IsK.held s8.held _ _ hk7⟩
        · obtain ⟨⟨s1, s5, rfl⟩, far5, d5, t5, _⟩ := hP
          exact ⟨⟨_, _, _, _, _, rfl⟩, extN_of eN hd o far5, t5⟩
      · exact hN _ _ hP
    rintro σ' G1 ⟨⟨s1, s2, s3, s4, s5, rfl⟩, _, T1⟩
    refine ⟨rfl, "a -> ", 14, rfl, rfl, by decide +kernel, by decide, by decide, _, _, rfl, rfl, lt_line (by decide +kernel), read_use (K := K) fitWide xWide ⟨by decide +kernel, by decide +kernel⟩ fun zw G2 s2 hw => ?_⟩
    refine ⟨rfl, read_use (K := K) fitDeep xDeep ⟨by decide +kernel, by decide +kernel⟩ fun zd G3 s3 hdp => ⟨by show 2 ≤ sizeLine; decide, fun pt hpt => ?_⟩⟩
    have s4' := (Same.refl G3).new (o := .tup [.ref zw, .ref zd]) hpt
    refine ⟨pt, _, rfl, SqT.of upd_same, rfl, _, _, rfl, _, _, rfl, rfl, ?_⟩
    have T4 := T1.ext ((s2.trans s3).trans s4')
    have hw4 := IsT.same (s3.trans s4') _ _ hw
    have hd4 := IsT.same s4' _ _ hdp
    generalize upd G3 pt (.tup [.ref zw, .ref zd]) = G4 at T4 hw4 hd4 ⊢
    clear s2 s3 s4' hw hdp hpt T1
    dsimp only
    refine tell_first "kind" T4 (fun G e Q' k => ?_) fun L H1 g1 => ?_
    · have hwG := IsT.held (extN_held e) _ _ hw4
      refine ⟨rfl, "a", rfl, fitA7, fun xa Ga sa ha => ⟨.ref zw, rfl, ?_⟩⟩
      have hwA := IsT.same sa _ _ hwG
      obtain ⟨dxa, _, _, _, hba, _⟩ := ins_at ha
      obtain ⟨dxw, _, _, _, hbw, _⟩ := ins_at hwA
      exact ⟨xa, dxa, _, zw, dxw, _, rfl, rfl, hba, hbw, _, _, tA7, tWide, rfl, ha, hwA, fitA7, fitWide, fun f => absurd f no1, fun _ H' s => x7.kind (k H' (sa.trans s))⟩
    refine tell_next "kind" g1 rfl (by show 1 ≤ 100; decide) (fun G e Q' k => ?_) fun H2 g2 => ?_
    · have hwG := IsT.held (extN_held e) _ _ hw4
      refine ⟨.ref zw, rfl, by show 1 ≤ sizeLine; decide, fun p hp => ?_⟩
      have s0 := (Same.refl G).new (o := .tup [.ref zw]) hp
      exact make_tyX (K := K) (CE := CT) (Q := fun _ H' => Q' (.str "fine") H') (E := refX K (fun w H' => Q' (.str w) H') (ref7 CT CW CO CN CP)) upd_same (.cons (IsT.same s0 _ _ hwG) .nil) partsW (fun f => absurd f no2) fun _ H' s => x7.kind (k H' (s0.trans s))
    refine tell_next "kind" g2 rfl (by show 2 ≤ 100; decide) (fun G e Q' k => ?_) fun H3 g3 => ?_
    · have hdG := IsT.held (extN_held e) _ _ hd4
      refine ⟨.ref zd, rfl, by show 1 ≤ sizeLine; decide, fun p hp => ?_⟩
      have s0 := (Same.refl G).new (o := .tup [.ref zd]) hp
      exact make_tyX (K := K) (CE := CT) (Q := fun _ H' => Q' (.str "fine") H') (E := refX K (fun w H' => Q' (.str w) H') (ref7 CT CW CO CN CP)) upd_same (.cons (IsT.same s0 _ _ hdG) .nil) partsD (fun f => absurd f no3) fun _ H' s => x7.kind (k H' (s0.trans s))
    refine tell_next "kind" g3 rfl (by show 3 ≤ 100; decide) (fun G e Q' k => ?_) fun H4 g4 => ?_
    · have hdG := IsT.held (extN_held e) _ _ hd4
      refine ⟨.ref zd, rfl, rfl, "a", rfl, fitA7, fun xa Ga sa ha => ?_⟩
      have hdA := IsT.same sa _ _ hdG
      obtain ⟨dxa, _, _, _, hba, _⟩ := ins_at ha
      obtain ⟨dxd, _, _, _, hbd, _⟩ := ins_at hdA
      exact ⟨zd, dxd, _, xa, dxa, _, rfl, rfl, hbd, hba, _, _, tDeep, tA7, rfl, hdA, ha, fitDeep, fitA7, fun f => absurd f no3, fun _ H' s => x7.kind (k H' (sa.trans s))⟩
    refine tell_next "kind" g4 rfl (by show 4 ≤ 100; decide) (fun G e Q' k => ?_) fun H5 g5 => ?_
    · have hwG := IsT.held (extN_held e) _ _ hw4
      obtain ⟨dxw, _, _, _, hbw, no, _⟩ := ins_at hwG
      refine ⟨.ref zw, rfl, zw, dxw, _, rfl, hbw, no, rfl, read_use (K := K) fitAA7 xAA7 ⟨by decide +kernel, by decide +kernel⟩ fun xr Gr sr hr => ?_⟩
      exact ⟨_, _, tWide, tAA7, "a", rfl, IsT.same sr _ _ hwG, hr, by decide +kernel, by decide +kernel, by decide +kernel, fitWide, fitAA7, fun f => absurd f no5, fun _ H' s => x7.kind (k H' (sr.trans s))⟩
    refine tell_next "kind" g5 rfl (by show 5 ≤ 100; decide) (fun G e Q' k => ?_) fun H6 g6 => ?_
    · have hdG := IsT.held (extN_held e) _ _ hd4
      obtain ⟨dxd, _, _, _, hbd, no, _⟩ := ins_at hdG
      refine ⟨.ref zd, rfl, zd, dxd, _, rfl, hbd, no, rfl, read_use (K := K) fitX7 xX7 ⟨by decide +kernel, by decide +kernel⟩ fun xr Gr sr hr => ?_⟩
      exact ⟨_, _, tDeep, tX7, "a", rfl, IsT.same sr _ _ hdG, hr, by decide +kernel, by decide +kernel, by decide +kernel, fitDeep, fitX7, fun f => absurd f no6, fun _ H' s => x7.kind (k H' (sr.trans s))⟩
    refine tell_next "fine" g6 rfl (by show 6 ≤ 100; decide) (fun G e Q' k => ?_) fun H7 g7 => ?_
    · have hwG := IsT.held (extN_held e) _ _ hw4
      obtain ⟨dxw, pw, fs, rs, hbw, no, li, hpw, hlw⟩ := ins_at hwG
      refine ⟨.ref zw, rfl, zw, dxw, _, rfl, hbw, zw, dxw, _, .ref pw, rfl, hbw, li, ?_⟩
      exact make_tyX (K := K) (CE := CT) (Q := fun _ H' => Q' (.str "fine") H') (E := refX K (fun w H' => Q' (.str w) H') (ref7 CT CW CO CN CP)) hpw hlw partsB (fun _ x H' s _ => k H' s) fun no => absurd fitWideB no
    refine ⟨.ref L, rfl, by show 1 ≤ sizeLine; decide, fun p1 h1 => ?_⟩
    have u1 := (Same.refl H7).new (o := .lst [V.str "kind"]) h1
    refine ⟨p1, 6, _, rfl, rfl, upd_same, by decide, by decide, by show 1 * 6 ≤ sizeLine; decide, fun p2 h2 => ⟨by show 1 ≤ sizeLine; decide, fun p3 h3 => ?_⟩⟩
    have u2 := u1.new (o := .lst (List.replicate (6 : Int).toNat [V.str "kind"]).flatten) h2
    have u3 := u2.new (o := .lst [V.str "fine"]) h3
    refine ⟨p2, p3, _, _, rfl, rfl, ((Same.refl _).new h3) _ _ upd_same, upd_same, lt_line (by show 6 + 1 ≤ 1000000; decide), fun p4 h4 => ?_⟩
    refine told_same ["kind", "kind", "kind", "kind", "kind", "kind", "fine"] (u3 _ _ g7.at_) h4 (fun _ => ?_)
    exact q _
end


end My
namespace My
open PySem PySem.Spec PyProof.Rows L2 TL
set_option pp.maxSteps 3000
set_option pp.deepTerms false
section
variable {P : Program} {w : World} {K : PySem.W.Frag} {mg : Str → Option Value} {base : Heap} {C_Type : Addr}
theorem ok_Type_atoms (T : Txt K mg C_Type) {f : Addr} {fd : FuncData} (F : Fun K "atoms" "Type.atoms" s_Type_atoms f fd) : FnOk P w K mg base CX0 1 f fd ["self"] (sp_Type_atoms K C_Type) := by
  have nd := sc_Type_atoms.nd
  refine F.ok sc_Type_atoms (fun vs H Q E h => ?_) (fun cdv A outer s H vs Q E hr h => ?_)
  · obtain ⟨v, t, rfl, _⟩ := h
    rfl
  · obtain ⟨v, t, rfl, ht, ft, q⟩ := h
    refine ⟨_, (pss_one (ps_ret (pe_callTy call_tuple_of (by rfl) T.b_tuple (by decide +kernel) (pa_cons (pe_callB (cr_sortS rfl) (by rfl) T.b_sorted (by decide +kernel) (pa_cons (pe_callTy (cr_setS rfl) (by rfl) T.b_set (by decide +kernel) (pa_cons (pe_fld (pv 0) rfl) pa_nil)) pa_nil)) pa_nil)))), ?_⟩
    obtain ⟨b, dx, p, q', rs, rfl, hb, hp, hl, hq⟩ := ht.at
    have few := ft.few
    refine ⟨.ref b, rfl, b, C_Type, dx, _, .ref q', rfl, hb, T.k_Type, T.x_Type.n_places, rfl, q', t.places, rfl, SqT.of hq, by omega, fun a L ha hL mem => ?_⟩
    refine ⟨a, L, rfl, upd_same, by omega, fun ys p0 pm nd so hp0 => ?_⟩
    refine ⟨p0, _, rfl, .inl ⟨SqL.of upd_same, fun l hl => ?_⟩⟩
    exact q l ys _ ((((Same.refl H).new ha).new hp0).new hl) upd_same ⟨nd, so, fun x => pm.mem_iff.trans (mem x), by rw [pm.length_eq]; exact hL⟩
end


end My
namespace My
open PySem PySem.Spec PyProof.Rows L2 TL
set_option pp.maxSteps 300
set_option pp.deepTerms false
theorem all_mk {l : PySem.W.OpenLaw} {w : World} {K : PySem.W.Frag} {h : Heap} {mg : Str → Option Value} {fa : Addr} (X : K.In h) (G : h.Ns mainGlobals mg) (hfa : mg "law" = some (.ref fa)) {ts : List Addr} (tabs : ∀ P ∈ ts, h.get? P = some (PySem.W.tabObj #[]))
     {C_Type : Addr} {f__is_tuple_of_types : Addr} {od__is_tuple_of_types an__is_tuple_of_types : Option Addr} {sl__is_tuple_of_types : Array (Option Value)} {oc__is_tuple_of_types kV__is_tuple_of_types dc__is_tuple_of_types pm__is_tuple_of_types cd__is_tuple_of_types ct__is_tuple_of_types : Value} {f_is_word : Addr} {od_is_word an_is_word : Option Addr} {sl_is_word : Array (Option Value)} {oc_is_word kV_is_word dc_is_word pm_is_word cd_is_word ct_is_word : Value} {f_Type_order : Addr} {od_Type_order an_Type_order : Option Addr} {sl_Type_order : Array (Option Value)} {oc_Type_order kV_Type_order dc_Type_order pm_Type_order cd_Type_order ct_Type_order : Value} {p_Type_order : Addr} {rs_Type_order : List Value} {f_Type_inputs : Addr} {od_Type_inputs an_Type_inputs : Option Addr} {sl_Type_inputs : Array (Option Value)} {oc_Type_inputs kV_Type_inputs dc_Type_inputs pm_Type_inputs cd_Type_inputs ct_Type_inputs : Value} {p_Type_inputs : Addr} {rs_Type_inputs : List Value} {f_Type_text : Addr} {od_Type_text an_Type_text : Option Addr} {sl_Type_text : Array (Option Value)} {oc_Type_text kV_Type_text dc_Type_text pm_Type_text cd_Type_text ct_Type_text : Value} {p_Type_text : Addr} {rs_Type_text : List Value} {f__text_inside : Addr} {od__text_inside an__text_inside : Option Addr} {sl__text_inside : Array (Option Value)} {oc__text_inside kV__text_inside dc__text_inside pm__text_inside cd__text_inside ct__text_inside : Value} {f_Type___init__ : Addr} {od_Type___init__ an_Type___init__ : Option Addr} {sl_Type___init__ : Array (Option Value)} {oc_Type___init__ kV_Type___init__ dc_Type___init__ pm_Type___init__ cd_Type___init__ ct_Type___init__ : Value} {f__pieces : Addr} {od__pieces an__pieces : Option Addr} {sl__pieces : Array (Option Value)} {oc__pieces kV__pieces dc__pieces pm__pieces cd__pieces ct__pieces : Value} {f_Type_plain : Addr} {od_Type_plain an_Type_plain : Option Addr} {sl_Type_plain : Array (Option Value)} {oc_Type_plain kV_Type_plain dc_Type_plain pm_Type_plain cd_Type_plain ct_Type_plain : Value} {p_Type_plain : Addr} {rs_Type_plain : List Value} {f__read_freely : Addr} {od__read_freely an__read_freely : Option Addr} {sl__read_freely : Array (Option Value)} {oc__read_freely kV__read_freely dc__read_freely pm__read_freely cd__read_freely ct__read_freely : Value} {f__read_piece : Addr} {od__read_piece an__read_piece : Option Addr} {sl__read_piece : Array (Option Value)} {oc__read_piece kV__read_piece dc__read_piece pm__read_piece cd__read_piece ct__read_piece : Value} {f__kept : Addr} {od__kept an__kept : Option Addr} {sl__kept : Array (Option Value)} {oc__kept kV__kept dc__kept pm__kept cd__kept ct__kept : Value} {f_Type_atom : Addr} {od_Type_atom an_Type_atom : Option Addr} {sl_Type_atom : Array (Option Value)} {oc_Type_atom kV_Type_atom dc_Type_atom pm_Type_atom cd_Type_atom ct_Type_atom : Value} {p_Type_atom : Addr} {rs_Type_atom : List Value} {f_Type_atoms : Addr} {od_Type_atoms an_Type_atoms : Option Addr} {sl_Type_atoms : Array (Option Value)} {oc_Type_atoms kV_Type_atoms dc_Type_atoms pm_Type_atoms cd_Type_atoms ct_Type_atoms : Value} {p_Type_atoms : Addr} {rs_Type_atoms : List Value} {f_Type_read : Addr} {od_Type_read an_Type_read : Option Addr} {sl_Type_read : Array (Option Value)} {oc_Type_read kV_Type_read dc_Type_read pm_Type_read cd_Type_read ct_Type_read : Value} {p_Type_read : Addr} {rs_Type_read : List Value} {f_is_integer : Addr} {od_is_integer an_is_integer : Option Addr} {sl_is_integer : Array (Option Value)} {oc_is_integer kV_is_integer dc_is_integer pm_is_integer cd_is_integer ct_is_integer : Value} {f__is_renaming : Addr} {od__is_renaming an__is_renaming : Option Addr} {sl__is_renaming : Array (Option Value)} {oc__is_renaming kV__is_renaming dc__is_renaming pm__is_renaming cd__is_renaming ct__is_renaming : Value} {f_Type___eq__ : Addr} {od_Type___eq__ an_Type___eq__ : Option Addr} {sl_Type___eq__ : Array (Option Value)} {oc_Type___eq__ kV_Type___eq__ dc_Type___eq__ pm_Type___eq__ cd_Type___eq__ ct_Type___eq__ : Value} {f_Type___rshift__ : Addr} {od_Type___rshift__ an_Type___rshift__ : Option Addr} {sl_Type___rshift__ : Array (Option Value)} {oc_Type___rshift__ kV_Type___rshift__ dc_Type___rshift__ pm_Type___rshift__ cd_Type___rshift__ ct_Type___rshift__ : Value} {f_Type___mod__ : Addr} {od_Type___mod__ an_Type___mod__ : Option Addr} {sl_Type___mod__ : Array (Option Value)} {oc_Type___mod__ kV_Type___mod__ dc_Type___mod__ pm_Type___mod__ cd_Type___mod__ ct_Type___mod__ : Value} {f_Type_renamed : Addr} {od_Type_renamed an_Type_renamed : Option Addr} {sl_Type_renamed : Array (Option Value)} {oc_Type_renamed kV_Type_renamed dc_Type_renamed pm_Type_renamed cd_Type_renamed ct_Type_renamed : Value} {f_Type_put : Addr} {od_Type_put an_Type_put : Option Addr} {sl_Type_put : Array (Option Value)} {oc_Type_put kV_Type_put dc_Type_put pm_Type_put cd_Type_put ct_Type_put : Value} {f_Type___getitem__ : Addr} {od_Type___getitem__ an_Type___getitem__ : Option Addr} {sl_Type___getitem__ : Array (Option Value)} {oc_Type___getitem__ kV_Type___getitem__ dc_Type___getitem__ pm_Type___getitem__ cd_Type___getitem__ ct_Type___getitem__ : Value} {f__law_refusal : Addr} {od__law_refusal an__law_refusal : Option Addr} {sl__law_refusal : Array (Option Value)} {oc__law_refusal kV__law_refusal dc__law_refusal pm__law_refusal cd__law_refusal ct__law_refusal : Value} {f__law_text : Addr} {od__law_text an__law_text : Option Addr} {sl__law_text : Array (Option Value)} {oc__law_text kV__law_text dc__law_text pm__law_text cd__law_text ct__law_text : Value} {f__law_roll : Addr} {od__law_roll an__law_roll : Option Addr} {sl__law_roll : Array (Option Value)} {oc__law_roll kV__law_roll dc__law_roll pm__law_roll cd__law_roll ct__law_roll : Value} {f__law_pick : Addr} {od__law_pick an__law_pick : Option Addr} {sl__law_pick : Array (Option Value)} {oc__law_pick kV__law_pick dc__law_pick pm__law_pick cd__law_pick ct__law_pick : Value} {f__law_made_wrongly : Addr} {od__law_made_wrongly an__law_made_wrongly : Option Addr} {sl__law_made_wrongly : Array (Option Value)} {oc__law_made_wrongly kV__law_made_wrongly dc__law_made_wrongly pm__law_made_wrongly ct__law_made_wrongly : Value} {f__law_asked_wrongly : Addr} {od__law_asked_wrongly an__law_asked_wrongly : Option Addr} {sl__law_asked_wrongly : Array (Option Value)} {oc__law_asked_wrongly kV__law_asked_wrongly dc__law_asked_wrongly pm__law_asked_wrongly ct__law_asked_wrongly : Value} {f__law_dice : Addr} {od__law_dice an__law_dice : Option Addr} {sl__law_dice : Array (Option Value)} {oc__law_dice kV__law_dice dc__law_dice pm__law_dice cd__law_dice ct__law_dice : Value} {f__law_atoms_of : Addr} {od__law_atoms_of an__law_atoms_of : Option Addr} {sl__law_atoms_of : Array (Option Value)} {oc__law_atoms_of kV__law_atoms_of dc__law_atoms_of pm__law_atoms_of cd__law_atoms_of ct__law_atoms_of : Value} {f__law_kind : Addr} {od__law_kind an__law_kind : Option Addr} {sl__law_kind : Array (Option Value)} {oc__law_kind kV__law_kind dc__law_kind pm__law_kind cd__law_kind ct__law_kind : Value} {f__law_made_kind : Addr} {od__law_made_kind an__law_made_kind : Option Addr} {sl__law_made_kind : Array (Option Value)} {oc__law_made_kind kV__law_made_kind dc__law_made_kind pm__law_made_kind cd__law_made_kind ct__law_made_kind : Value} {f_law : Addr} {od_law an_law : Option Addr} {sl_law : Array (Option Value)} {oc_law kV_law dc_law pm_law ct_law : Value} {t_MAX_LETTERS : Tok} {t_MAX_PLACES : Tok} {t_MAX_ORDER : Tok} {t__ARROW : Tok} {C_InvalidType : Addr} {C_InvalidWord : Addr} {C_InvalidOperation : Addr} {C_BuildError : Addr} {C_ParseError fI_P : Addr} {odP anP : Option Addr} {slP : Array (Option Value)} {ocP kVP dcP pmP cdP ctP : Value} {C_InvalidNumber fI_N : Addr} {odN anN : Option Addr} {slN : Array (Option Value)} {ocN kVN dcN pmN cdN ctN : Value} {rg_RShift rg_Mod : Addr} {fo_RShift_NoneType fo_RShift_int fo_RShift_bool fo_RShift_str fo_RShift_list fo_RShift_tuple fo_RShift_dict fo_Mod_NoneType fo_Mod_int fo_Mod_bool fo_Mod_str fo_Mod_list fo_Mod_tuple fo_Mod_dict ro_RShift_NoneType ro_RShift_int ro_RShift_bool ro_RShift_str ro_RShift_list ro_RShift_tuple ro_RShift_dict ro_Mod_NoneType ro_Mod_int ro_Mod_bool ro_Mod_str ro_Mod_list ro_Mod_tuple ro_Mod_dict : Option Value} {cA__law_made_wrongly PT__law_made_wrongly : Addr} {tcl__law_made_wrongly : Value} {tod__law_made_wrongly : Option Addr} {tvs__law_made_wrongly : Array Value} {tsl__law_made_wrongly : Array (Option Value)} {cA__law_asked_wrongly PT__law_asked_wrongly : Addr} {tcl__law_asked_wrongly : Value} {tod__law_asked_wrongly : Option Addr} {tvs__law_asked_wrongly : Array Value} {tsl__law_asked_wrongly : Array (Option Value)} {cA_law PT_law : Addr} {tcl_law : Value} {tod_law : Option Addr} {tvs_law : Array Value} {tsl_law : Array (Option Value)}
    (aC_Type : PySem.W.nsIn K mainGlobals "Type" = some (some (.ref C_Type)))
    (pg_Type : PySem.W.plainGet K C_Type Str.empty = true)
    (hd_Type : PySem.W.hasDictIn K C_Type = true)
    (po_Type : PySem.W.plainOver K C_Type = true)
    (sa_Type : PySem.W.findIn K (.ref C_Type) "__setattr__" = some (some (.builtin "object.__setattr__")))
    (mk_Type : PySem.W.makesIn K C_Type = true)
    (kc_Type : PySem.W.keepIn K (.ref C_Type) = true)
    (n_inputs_Type : PySem.W.findIn K (.ref C_Type) "_inputs" = some none)
    (n_atom_Type : PySem.W.findIn K (.ref C_Type) "_atom" = some none)
    (n_places_Type : PySem.W.findIn K (.ref C_Type) "_places" = some none)
    (n_order_Type : PySem.W.findIn K (.ref C_Type) "_order" = some none)
    (n_text_Type : PySem.W.findIn K (.ref C_Type) "_text" = some none)
    (fst_Type : PySem.W.selfFirst K C_Type = true)
    (nfs_Type : PySem.W.notFirst K C_Type (.ref C_Type) = true)
    (ni_str_Type : PySem.W.subIn K (.ref C_Type) (.type "str") = some false)
    (tyt_Type : PySem.W.typeIn K (.ref C_Type) = some (.type "type"))
    (od_NoneType_Type : PySem.W.subIn K (.type "NoneType") (.ref C_Type) = some false)
    (nf_NoneType_Type : PySem.W.notFirst K C_Type (.type "NoneType") = true)
    (od_int_Type : PySem.W.subIn K (.type "int") (.ref C_Type) = some false)
    (nf_int_Type : PySem.W.notFirst K C_Type (.type "int") = true)
    (od_str_Type : PySem.W.subIn K (.type "str") (.ref C_Type) = some false)
    (nf_str_Type : PySem.W.notFirst K C_Type (.type "str") = true)
    (od_tuple_Type : PySem.W.subIn K (.type "tuple") (.ref C_Type) = some false)
    (nf_tuple_Type : PySem.W.notFirst K C_Type (.type "tuple") = true)
    (od_list_Type : PySem.W.subIn K (.type "list") (.ref C_Type) = some false)
    (nf_list_Type : PySem.W.notFirst K C_Type (.type "list") = true)
    (od_dict_Type : PySem.W.subIn K (.type "dict") (.ref C_Type) = some false)
    (nf_dict_Type : PySem.W.notFirst K C_Type (.type "dict") = true)
    (ne_Type : PySem.W.findIn K (.ref C_Type) "__ne__" = some (some (.builtin "object.__ne__")))
    (un_Type : PySem.W.subIn K (.ref C_Type) (.type "object") = some true)
    (cl1_Type : PySem.W.findIn K (.ref C_Type) "__class__" = some (some (.builtin "object.__class__")))
    (cl2_Type : PySem.W.specialIn K (.builtin "object.__class__") "__get__" = some (some (.builtin "getset_descriptor.__get__")))
    (cl3_Type : PySem.W.takesIn K (.builtin "object.__class__") = some true)
    (cl4_Type : PySem.W.mroIn K C_Type (.type "object") = some true)
    (rd_Type : PySem.W.readsIn K C_Type (.type "type") = true)
    (ga_Type : PySem.W.specialIn K (.ref C_Type) "__getattribute__" = some (some (.builtin "type.__getattribute__")))
    (a__is_tuple_of_types : PySem.W.nsIn K mainGlobals "_is_tuple_of_types" = some (some (.ref f__is_tuple_of_types)))
    (l__is_tuple_of_types : K.lookup f__is_tuple_of_types = some ⟨oc__is_tuple_of_types, od__is_tuple_of_types, .func (PySem.W.fnOf "_is_tuple_of_types" "_is_tuple_of_types" (defArgs s__is_tuple_of_types) (defBody s__is_tuple_of_types) (defScope s__is_tuple_of_types) .none kV__is_tuple_of_types dc__is_tuple_of_types pm__is_tuple_of_types an__is_tuple_of_types cd__is_tuple_of_types ct__is_tuple_of_types), sl__is_tuple_of_types⟩)
    (c__is_tuple_of_types : PySem.W.codeIn K cd__is_tuple_of_types "_is_tuple_of_types" = true)
    (k__is_tuple_of_types : PySem.W.keepIn K (.ref f__is_tuple_of_types) = true)
    (a_is_word : PySem.W.nsIn K mainGlobals "is_word" = some (some (.ref f_is_word)))
    (l_is_word : K.lookup f_is_word = some ⟨oc_is_word, od_is_word, .func (PySem.W.fnOf "is_word" "is_word" (defArgs s_is_word) (defBody s_is_word) (defScope s_is_word) .none kV_is_word dc_is_word pm_is_word an_is_word cd_is_word ct_is_word), sl_is_word⟩)
    (c_is_word : PySem.W.codeIn K cd_is_word "is_word" = true)
    (k_is_word : PySem.W.keepIn K (.ref f_is_word) = true)
    (a_Type_order : PySem.W.findIn K (.ref C_Type) "order" = some (some (.ref p_Type_order)))
    (g_Type_order : PySem.W.specialIn K (.ref p_Type_order) "__get__" = some (some (.builtin "property.__get__")))
    (t_Type_order : PySem.W.takesIn K (.ref p_Type_order) = some true)
    (r_Type_order : PySem.W.recIn K p_Type_order "property" = some (.ref f_Type_order :: rs_Type_order))
    (l_Type_order : K.lookup f_Type_order = some ⟨oc_Type_order, od_Type_order, .func (PySem.W.fnOf "order" "Type.order" (defArgs s_Type_order) (defBody s_Type_order) (defScope s_Type_order) .none kV_Type_order dc_Type_order pm_Type_order an_Type_order cd_Type_order ct_Type_order), sl_Type_order⟩)
    (c_Type_order : PySem.W.codeIn K cd_Type_order "Type.order" = true)
    (k_Type_order : PySem.W.keepIn K (.ref f_Type_order) = true)
    (a_Type_inputs : PySem.W.findIn K (.ref C_Type) "inputs" = some (some (.ref p_Type_inputs)))
    (g_Type_inputs : PySem.W.specialIn K (.ref p_Type_inputs) "__get__" = some (some (.builtin "property.__get__")))
    (t_Type_inputs : PySem.W.takesIn K (.ref p_Type_inputs) = some true)
    (r_Type_inputs : PySem.W.recIn K p_Type_inputs "property" = some (.ref f_Type_inputs :: rs_Type_inputs))
    (l_Type_inputs : K.lookup f_Type_inputs = some ⟨oc_Type_inputs, od_Type_inputs, .func (PySem.W.fnOf "inputs" "Type.inputs" (defArgs s_Type_inputs) (defBody s_Type_inputs) (defScope s_Type_inputs) .none kV_Type_inputs dc_Type_inputs pm_Type_inputs an_Type_inputs cd_Type_inputs ct_Type_inputs), sl_Type_inputs⟩)
    (c_Type_inputs : PySem.W.codeIn K cd_Type_inputs "Type.inputs" = true)
    (k_Type_inputs : PySem.W.keepIn K (.ref f_Type_inputs) = true)
    (a_Type_text : PySem.W.findIn K (.ref C_Type) "text" = some (some (.ref p_Type_text)))
    (g_Type_text : PySem.W.specialIn K (.ref p_Type_text) "__get__" = some (some (.builtin "property.__get__")))
    (t_Type_text : PySem.W.takesIn K (.ref p_Type_text) = some true)
    (r_Type_text : PySem.W.recIn K p_Type_text "property" = some (.ref f_Type_text :: rs_Type_text))
    (l_Type_text : K.lookup f_Type_text = some ⟨oc_Type_text, od_Type_text, .func (PySem.W.fnOf "text" "Type.text" (defArgs s_Type_text) (defBody s_Type_text) (defScope s_Type_text) .none kV_Type_text dc_Type_text pm_Type_text an_Type_text cd_Type_text ct_Type_text), sl_Type_text⟩)
    (c_Type_text : PySem.W.codeIn K cd_Type_text "Type.text" = true)
    (k_Type_text : PySem.W.keepIn K (.ref f_Type_text) = true)
    (a__text_inside : PySem.W.nsIn K mainGlobals "_text_inside" = some (some (.ref f__text_inside)))
    (l__text_inside : K.lookup f__text_inside = some ⟨oc__text_inside, od__text_inside, .func (PySem.W.fnOf "_text_inside" "_text_inside" (defArgs s__text_inside) (defBody s__text_inside) (defScope s__text_inside) .none kV__text_inside dc__text_inside pm__text_inside an__text_inside cd__text_inside ct__text_inside), sl__text_inside⟩)
    (c__text_inside : PySem.W.codeIn K cd__text_inside "_text_inside" = true)
    (k__text_inside : PySem.W.keepIn K (.ref f__text_inside) = true)
    (a_Type___init__ : PySem.W.findIn K (.ref C_Type) "__init__" = some (some (.ref f_Type___init__)))
    (i_Type___init__ : PySem.W.isFn K (.ref f_Type___init__) = true)
    (l_Type___init__ : K.lookup f_Type___init__ = some ⟨oc_Type___init__, od_Type___init__, .func (PySem.W.fnOf "__init__" "Type.__init__" (defArgs s_Type___init__) (defBody s_Type___init__) (defScope s_Type___init__) .none kV_Type___init__ dc_Type___init__ pm_Type___init__ an_Type___init__ cd_Type___init__ ct_Type___init__), sl_Type___init__⟩)
    (c_Type___init__ : PySem.W.codeIn K cd_Type___init__ "Type.__init__" = true)
    (k_Type___init__ : PySem.W.keepIn K (.ref f_Type___init__) = true)
    (a__pieces : PySem.W.nsIn K mainGlobals "_pieces" = some (some (.ref f__pieces)))
    (l__pieces : K.lookup f__pieces = some ⟨oc__pieces, od__pieces, .func (PySem.W.fnOf "_pieces" "_pieces" (defArgs s__pieces) (defBody s__pieces) (defScope s__pieces) .none kV__pieces dc__pieces pm__pieces an__pieces cd__pieces ct__pieces), sl__pieces⟩)
    (c__pieces : PySem.W.codeIn K cd__pieces "_pieces" = true)
    (k__pieces : PySem.W.keepIn K (.ref f__pieces) = true)
    (a_Type_plain : PySem.W.findCls K (.ref C_Type) (.type "type") "plain" = some (.get (.builtin "classmethod.__get__") (.ref p_Type_plain) .none (.ref C_Type)))
    (r_Type_plain : PySem.W.recIn K p_Type_plain "classmethod" = some (.ref f_Type_plain :: rs_Type_plain))
    (fi_Type_plain : PySem.W.fnIn K f_Type_plain = true)
    (l_Type_plain : K.lookup f_Type_plain = some ⟨oc_Type_plain, od_Type_plain, .func (PySem.W.fnOf "plain" "Type.plain" (defArgs s_Type_plain) (defBody s_Type_plain) (defScope s_Type_plain) .none kV_Type_plain dc_Type_plain pm_Type_plain an_Type_plain cd_Type_plain ct_Type_plain), sl_Type_plain⟩)
    (c_Type_plain : PySem.W.codeIn K cd_Type_plain "Type.plain" = true)
    (k_Type_plain : PySem.W.keepIn K (.ref f_Type_plain) = true)
    (a__read_freely : PySem.W.nsIn K mainGlobals "_read_freely" = some (some (.ref f__read_freely)))
    (l__read_freely : K.lookup f__read_freely = some ⟨oc__read_freely, od__read_freely, .func (PySem.W.fnOf "_read_freely" "_read_freely" (defArgs s__read_freely) (defBody s__read_freely) (defScope s__read_freely) .none kV__read_freely dc__read_freely pm__read_freely an__read_freely cd__read_freely ct__read_freely), sl__read_freely⟩)
    (c__read_freely : PySem.W.codeIn K cd__read_freely "_read_freely" = true)
    (k__read_freely : PySem.W.keepIn K (.ref f__read_freely) = true)
    (a__read_piece : PySem.W.nsIn K mainGlobals "_read_piece" = some (some (.ref f__read_piece)))
    (l__read_piece : K.lookup f__read_piece = some ⟨oc__read_piece, od__read_piece, .func (PySem.W.fnOf "_read_piece" "_read_piece" (defArgs s__read_piece) (defBody s__read_piece) (defScope s__read_piece) .none kV__read_piece dc__read_piece pm__read_piece an__read_piece cd__read_piece ct__read_piece), sl__read_piece⟩)
    (c__read_piece : PySem.W.codeIn K cd__read_piece "_read_piece" = true)
    (k__read_piece : PySem.W.keepIn K (.ref f__read_piece) = true)
    (a__kept : PySem.W.nsIn K mainGlobals "_kept" = some (some (.ref f__kept)))
    (l__kept : K.lookup f__kept = some ⟨oc__kept, od__kept, .func (PySem.W.fnOf "_kept" "_kept" (defArgs s__kept) (defBody s__kept) (defScope s__kept) .none kV__kept dc__kept pm__kept an__kept cd__kept ct__kept), sl__kept⟩)
    (c__kept : PySem.W.codeIn K cd__kept "_kept" = true)
    (k__kept : PySem.W.keepIn K (.ref f__kept) = true)
    (a_Type_atom : PySem.W.findIn K (.ref C_Type) "atom" = some (some (.ref p_Type_atom)))
    (g_Type_atom : PySem.W.specialIn K (.ref p_Type_atom) "__get__" = some (some (.builtin "property.__get__")))
    (t_Type_atom : PySem.W.takesIn K (.ref p_Type_atom) = some true)
    (r_Type_atom : PySem.W.recIn K p_Type_atom "property" = some (.ref f_Type_atom :: rs_Type_atom))
    (l_Type_atom : K.lookup f_Type_atom = some ⟨oc_Type_atom, od_Type_atom, .func (PySem.W.fnOf "atom" "Type.atom" (defArgs s_Type_atom) (defBody s_Type_atom) (defScope s_Type_atom) .none kV_Type_atom dc_Type_atom pm_Type_atom an_Type_atom cd_Type_atom ct_Type_atom), sl_Type_atom⟩)
    (c_Type_atom : PySem.W.codeIn K cd_Type_atom "Type.atom" = true)
    (k_Type_atom : PySem.W.keepIn K (.ref f_Type_atom) = true)
    (a_Type_atoms : PySem.W.findIn K (.ref C_Type) "atoms" = some (some (.ref p_Type_atoms)))
    (g_Type_atoms : PySem.W.specialIn K (.ref p_Type_atoms) "__get__" = some (some (.builtin "property.__get__")))
    (t_Type_atoms : PySem.W.takesIn K (.ref p_Type_atoms) = some true)
    (r_Type_atoms : PySem.W.recIn K p_Type_atoms "property" = some (.ref f_Type_atoms :: rs_Type_atoms))
    (l_Type_atoms : K.lookup f_Type_atoms = some ⟨oc_Type_atoms, od_Type_atoms, .func (PySem.W.fnOf "atoms" "Type.atoms" (defArgs s_Type_atoms) (defBody s_Type_atoms) (defScope s_Type_atoms) .none kV_Type_atoms dc_Type_atoms pm_Type_atoms an_Type_atoms cd_Type_atoms ct_Type_atoms), sl_Type_atoms⟩)
    (c_Type_atoms : PySem.W.codeIn K cd_Type_atoms "Type.atoms" = true)
    (k_Type_atoms : PySem.W.keepIn K (.ref f_Type_atoms) = true)
    (a_Type_read : PySem.W.findCls K (.ref C_Type) (.type "type") "read" = some (.get (.builtin "classmethod.__get__") (.ref p_Type_read) .none (.ref C_Type)))
    (r_Type_read : PySem.W.recIn K p_Type_read "classmethod" = some (.ref f_Type_read :: rs_Type_read))
    (fi_Type_read : PySem.W.fnIn K f_Type_read = true)
    (l_Type_read : K.lookup f_Type_read = some ⟨oc_Type_read, od_Type_read, .func (PySem.W.fnOf "read" "Type.read" (defArgs s_Type_read) (defBody s_Type_read) (defScope s_Type_read) .none kV_Type_read dc_Type_read pm_Type_read an_Type_read cd_Type_read ct_Type_read), sl_Type_read⟩)
    (c_Type_read : PySem.W.codeIn K cd_Type_read "Type.read" = true)
    (k_Type_read : PySem.W.keepIn K (.ref f_Type_read) = true)
    (a_is_integer : PySem.W.nsIn K mainGlobals "is_integer" = some (some (.ref f_is_integer)))
    (l_is_integer : K.lookup f_is_integer = some ⟨oc_is_integer, od_is_integer, .func (PySem.W.fnOf "is_integer" "is_integer" (defArgs s_is_integer) (defBody s_is_integer) (defScope s_is_integer) .none kV_is_integer dc_is_integer pm_is_integer an_is_integer cd_is_integer ct_is_integer), sl_is_integer⟩)
    (c_is_integer : PySem.W.codeIn K cd_is_integer "is_integer" = true)
    (k_is_integer : PySem.W.keepIn K (.ref f_is_integer) = true)
    (a__is_renaming : PySem.W.nsIn K mainGlobals "_is_renaming" = some (some (.ref f__is_renaming)))
    (l__is_renaming : K.lookup f__is_renaming = some ⟨oc__is_renaming, od__is_renaming, .func (PySem.W.fnOf "_is_renaming" "_is_renaming" (defArgs s__is_renaming) (defBody s__is_renaming) (defScope s__is_renaming) .none kV__is_renaming dc__is_renaming pm__is_renaming an__is_renaming cd__is_renaming ct__is_renaming), sl__is_renaming⟩)
    (c__is_renaming : PySem.W.codeIn K cd__is_renaming "_is_renaming" = true)
    (k__is_renaming : PySem.W.keepIn K (.ref f__is_renaming) = true)
    (a_Type___eq__ : PySem.W.findIn K (.ref C_Type) "__eq__" = some (some (.ref f_Type___eq__)))
    (i_Type___eq__ : PySem.W.isFn K (.ref f_Type___eq__) = true)
    (l_Type___eq__ : K.lookup f_Type___eq__ = some ⟨oc_Type___eq__, od_Type___eq__, .func (PySem.W.fnOf "__eq__" "Type.__eq__" (defArgs s_Type___eq__) (defBody s_Type___eq__) (defScope s_Type___eq__) .none kV_Type___eq__ dc_Type___eq__ pm_Type___eq__ an_Type___eq__ cd_Type___eq__ ct_Type___eq__), sl_Type___eq__⟩)
    (c_Type___eq__ : PySem.W.codeIn K cd_Type___eq__ "Type.__eq__" = true)
    (k_Type___eq__ : PySem.W.keepIn K (.ref f_Type___eq__) = true)
    (a_Type___rshift__ : PySem.W.findIn K (.ref C_Type) "__rshift__" = some (some (.ref f_Type___rshift__)))
    (i_Type___rshift__ : PySem.W.isFn K (.ref f_Type___rshift__) = true)
    (l_Type___rshift__ : K.lookup f_Type___rshift__ = some ⟨oc_Type___rshift__, od_Type___rshift__, .func (PySem.W.fnOf "__rshift__" "Type.__rshift__" (defArgs s_Type___rshift__) (defBody s_Type___rshift__) (defScope s_Type___rshift__) .none kV_Type___rshift__ dc_Type___rshift__ pm_Type___rshift__ an_Type___rshift__ cd_Type___rshift__ ct_Type___rshift__), sl_Type___rshift__⟩)
    (c_Type___rshift__ : PySem.W.codeIn K cd_Type___rshift__ "Type.__rshift__" = true)
    (k_Type___rshift__ : PySem.W.keepIn K (.ref f_Type___rshift__) = true)
    (a_Type___mod__ : PySem.W.findIn K (.ref C_Type) "__mod__" = some (some (.ref f_Type___mod__)))
    (i_Type___mod__ : PySem.W.isFn K (.ref f_Type___mod__) = true)
    (l_Type___mod__ : K.lookup f_Type___mod__ = some ⟨oc_Type___mod__, od_Type___mod__, .func (PySem.W.fnOf "__mod__" "Type.__mod__" (defArgs s_Type___mod__) (defBody s_Type___mod__) (defScope s_Type___mod__) .none kV_Type___mod__ dc_Type___mod__ pm_Type___mod__ an_Type___mod__ cd_Type___mod__ ct_Type___mod__), sl_Type___mod__⟩)
    (c_Type___mod__ : PySem.W.codeIn K cd_Type___mod__ "Type.__mod__" = true)
    (k_Type___mod__ : PySem.W.keepIn K (.ref f_Type___mod__) = true)
    (a_Type_renamed : PySem.W.findIn K (.ref C_Type) "renamed" = some (some (.ref f_Type_renamed)))
    (i_Type_renamed : PySem.W.isFn K (.ref f_Type_renamed) = true)
    (l_Type_renamed : K.lookup f_Type_renamed = some ⟨oc_Type_renamed, od_Type_renamed, .func (PySem.W.fnOf "renamed" "Type.renamed" (defArgs s_Type_renamed) (defBody s_Type_renamed) (defScope s_Type_renamed) .none kV_Type_renamed dc_Type_renamed pm_Type_renamed an_Type_renamed cd_Type_renamed ct_Type_renamed), sl_Type_renamed⟩)
    (c_Type_renamed : PySem.W.codeIn K cd_Type_renamed "Type.renamed" = true)
    (k_Type_renamed : PySem.W.keepIn K (.ref f_Type_renamed) = true)
    (a_Type_put : PySem.W.findIn K (.ref C_Type) "put" = some (some (.ref f_Type_put)))
    (i_Type_put : PySem.W.isFn K (.ref f_Type_put) = true)
    (l_Type_put : K.lookup f_Type_put = some ⟨oc_Type_put, od_Type_put, .func (PySem.W.fnOf "put" "Type.put" (defArgs s_Type_put) (defBody s_Type_put) (defScope s_Type_put) .none kV_Type_put dc_Type_put pm_Type_put an_Type_put cd_Type_put ct_Type_put), sl_Type_put⟩)
    (c_Type_put : PySem.W.codeIn K cd_Type_put "Type.put" = true)
    (k_Type_put : PySem.W.keepIn K (.ref f_Type_put) = true)
    (a_Type___getitem__ : PySem.W.findIn K (.ref C_Type) "__getitem__" = some (some (.ref f_Type___getitem__)))
    (i_Type___getitem__ : PySem.W.isFn K (.ref f_Type___getitem__) = true)
    (fi_Type___getitem__ : PySem.W.fnIn K f_Type___getitem__ = true)
    (l_Type___getitem__ : K.lookup f_Type___getitem__ = some ⟨oc_Type___getitem__, od_Type___getitem__, .func (PySem.W.fnOf "__getitem__" "Type.__getitem__" (defArgs s_Type___getitem__) (defBody s_Type___getitem__) (defScope s_Type___getitem__) .none kV_Type___getitem__ dc_Type___getitem__ pm_Type___getitem__ an_Type___getitem__ cd_Type___getitem__ ct_Type___getitem__), sl_Type___getitem__⟩)
    (c_Type___getitem__ : PySem.W.codeIn K cd_Type___getitem__ "Type.__getitem__" = true)
    (k_Type___getitem__ : PySem.W.keepIn K (.ref f_Type___getitem__) = true)
    (a__law_refusal : PySem.W.nsIn K mainGlobals "_law_refusal" = some (some (.ref f__law_refusal)))
    (l__law_refusal : K.lookup f__law_refusal = some ⟨oc__law_refusal, od__law_refusal, .func (PySem.W.fnOf "_law_refusal" "_law_refusal" (defArgs s__law_refusal) (defBody s__law_refusal) (defScope s__law_refusal) .none kV__law_refusal dc__law_refusal pm__law_refusal an__law_refusal cd__law_refusal ct__law_refusal), sl__law_refusal⟩)
    (c__law_refusal : PySem.W.codeIn K cd__law_refusal "_law_refusal" = true)
    (k__law_refusal : PySem.W.keepIn K (.ref f__law_refusal) = true)
    (a__law_text : PySem.W.nsIn K mainGlobals "_law_text" = some (some (.ref f__law_text)))
    (l__law_text : K.lookup f__law_text = some ⟨oc__law_text, od__law_text, .func (PySem.W.fnOf "_law_text" "_law_text" (defArgs s__law_text) (defBody s__law_text) (defScope s__law_text) .none kV__law_text dc__law_text pm__law_text an__law_text cd__law_text ct__law_text), sl__law_text⟩)
    (c__law_text : PySem.W.codeIn K cd__law_text "_law_text" = true)
    (k__law_text : PySem.W.keepIn K (.ref f__law_text) = true)
    (a__law_roll : PySem.W.nsIn K mainGlobals "_law_roll" = some (some (.ref f__law_roll)))
    (l__law_roll : K.lookup f__law_roll = some ⟨oc__law_roll, od__law_roll, .func (PySem.W.fnOf "_law_roll" "_law_roll" (defArgs s__law_roll) (defBody s__law_roll) (defScope s__law_roll) .none kV__law_roll dc__law_roll pm__law_roll an__law_roll cd__law_roll ct__law_roll), sl__law_roll⟩)
    (c__law_roll : PySem.W.codeIn K cd__law_roll "_law_roll" = true)
    (k__law_roll : PySem.W.keepIn K (.ref f__law_roll) = true)
    (a__law_pick : PySem.W.nsIn K mainGlobals "_law_pick" = some (some (.ref f__law_pick)))
    (l__law_pick : K.lookup f__law_pick = some ⟨oc__law_pick, od__law_pick, .func (PySem.W.fnOf "_law_pick" "_law_pick" (defArgs s__law_pick) (defBody s__law_pick) (defScope s__law_pick) .none kV__law_pick dc__law_pick pm__law_pick an__law_pick cd__law_pick ct__law_pick), sl__law_pick⟩)
    (c__law_pick : PySem.W.codeIn K cd__law_pick "_law_pick" = true)
    (k__law_pick : PySem.W.keepIn K (.ref f__law_pick) = true)
    (a__law_made_wrongly : PySem.W.nsIn K mainGlobals "_law_made_wrongly" = some (some (.ref f__law_made_wrongly)))
    (l__law_made_wrongly : K.lookup f__law_made_wrongly = some ⟨oc__law_made_wrongly, od__law_made_wrongly, .func (PySem.W.fnOf "_law_made_wrongly" "_law_made_wrongly" (defArgs s__law_made_wrongly) (defBody s__law_made_wrongly) (defScope s__law_made_wrongly) .none kV__law_made_wrongly dc__law_made_wrongly pm__law_made_wrongly an__law_made_wrongly (PySem.Value.ref cA__law_made_wrongly) ct__law_made_wrongly), sl__law_made_wrongly⟩)
    (c__law_made_wrongly : PySem.W.codeIn K (PySem.Value.ref cA__law_made_wrongly) "_law_made_wrongly" = true)
    (k__law_made_wrongly : PySem.W.keepIn K (.ref f__law_made_wrongly) = true)
    (a__law_asked_wrongly : PySem.W.nsIn K mainGlobals "_law_asked_wrongly" = some (some (.ref f__law_asked_wrongly)))
    (l__law_asked_wrongly : K.lookup f__law_asked_wrongly = some ⟨oc__law_asked_wrongly, od__law_asked_wrongly, .func (PySem.W.fnOf "_law_asked_wrongly" "_law_asked_wrongly" (defArgs s__law_asked_wrongly) (defBody s__law_asked_wrongly) (defScope s__law_asked_wrongly) .none kV__law_asked_wrongly dc__law_asked_wrongly pm__law_asked_wrongly an__law_asked_wrongly (PySem.Value.ref cA__law_asked_wrongly) ct__law_asked_wrongly), sl__law_asked_wrongly⟩)
    (c__law_asked_wrongly : PySem.W.codeIn K (PySem.Value.ref cA__law_asked_wrongly) "_law_asked_wrongly" = true)
    (k__law_asked_wrongly : PySem.W.keepIn K (.ref f__law_asked_wrongly) = true)
    (a__law_dice : PySem.W.nsIn K mainGlobals "_law_dice" = some (some (.ref f__law_dice)))
    (l__law_dice : K.lookup f__law_dice = some ⟨oc__law_dice, od__law_dice, .func (PySem.W.fnOf "_law_dice" "_law_dice" (defArgs s__law_dice) (defBody s__law_dice) (defScope s__law_dice) .none kV__law_dice dc__law_dice pm__law_dice an__law_dice cd__law_dice ct__law_dice), sl__law_dice⟩)
    (c__law_dice : PySem.W.codeIn K cd__law_dice "_law_dice" = true)
    (k__law_dice : PySem.W.keepIn K (.ref f__law_dice) = true)
    (a__law_atoms_of : PySem.W.nsIn K mainGlobals "_law_atoms_of" = some (some (.ref f__law_atoms_of)))
    (l__law_atoms_of : K.lookup f__law_atoms_of = some ⟨oc__law_atoms_of, od__law_atoms_of, .func (PySem.W.fnOf "_law_atoms_of" "_law_atoms_of" (defArgs s__law_atoms_of) (defBody s__law_atoms_of) (defScope s__law_atoms_of) .none kV__law_atoms_of dc__law_atoms_of pm__law_atoms_of an__law_atoms_of cd__law_atoms_of ct__law_atoms_of), sl__law_atoms_of⟩)
    (c__law_atoms_of : PySem.W.codeIn K cd__law_atoms_of "_law_atoms_of" = true)
    (k__law_atoms_of : PySem.W.keepIn K (.ref f__law_atoms_of) = true)
    (a__law_kind : PySem.W.nsIn K mainGlobals "_law_kind" = some (some (.ref f__law_kind)))
    (l__law_kind : K.lookup f__law_kind = some ⟨oc__law_kind, od__law_kind, .func (PySem.W.fnOf "_law_kind" "_law_kind" (defArgs s__law_kind) (defBody s__law_kind) (defScope s__law_kind) .none kV__law_kind dc__law_kind pm__law_kind an__law_kind cd__law_kind ct__law_kind), sl__law_kind⟩)
    (c__law_kind : PySem.W.codeIn K cd__law_kind "_law_kind" = true)
    (k__law_kind : PySem.W.keepIn K (.ref f__law_kind) = true)
    (a__law_made_kind : PySem.W.nsIn K mainGlobals "_law_made_kind" = some (some (.ref f__law_made_kind)))
    (l__law_made_kind : K.lookup f__law_made_kind = some ⟨oc__law_made_kind, od__law_made_kind, .func (PySem.W.fnOf "_law_made_kind" "_law_made_kind" (defArgs s__law_made_kind) (defBody s__law_made_kind) (defScope s__law_made_kind) .none kV__law_made_kind dc__law_made_kind pm__law_made_kind an__law_made_kind cd__law_made_kind ct__law_made_kind), sl__law_made_kind⟩)
    (c__law_made_kind : PySem.W.codeIn K cd__law_made_kind "_law_made_kind" = true)
    (k__law_made_kind : PySem.W.keepIn K (.ref f__law_made_kind) = true)
    (a_law : PySem.W.nsIn K mainGlobals "law" = some (some (.ref f_law)))
    (l_law : K.lookup f_law = some ⟨oc_law, od_law, .func (PySem.W.fnOf "law" "law" (defArgs s_law) (defBody s_law) (defScope s_law) .none kV_law dc_law pm_law an_law (PySem.Value.ref cA_law) ct_law), sl_law⟩)
    (c_law : PySem.W.codeIn K (PySem.Value.ref cA_law) "law" = true)
    (k_law : PySem.W.keepIn K (.ref f_law) = true)
    (z_RuntimeError : PySem.W.nsIn K mainGlobals "RuntimeError" = some none)
    (z_ValueError : PySem.W.nsIn K mainGlobals "ValueError" = some none)
    (z_abs : PySem.W.nsIn K mainGlobals "abs" = some none)
    (z_all : PySem.W.nsIn K mainGlobals "all" = some none)
    (z_bool : PySem.W.nsIn K mainGlobals "bool" = some none)
    (z_classmethod : PySem.W.nsIn K mainGlobals "classmethod" = some none)
    (z_dict : PySem.W.nsIn K mainGlobals "dict" = some none)
    (z_int : PySem.W.nsIn K mainGlobals "int" = some none)
    (z_isinstance : PySem.W.nsIn K mainGlobals "isinstance" = some none)
    (z_iter : PySem.W.nsIn K mainGlobals "iter" = some none)
    (z_len : PySem.W.nsIn K mainGlobals "len" = some none)
    (z_list : PySem.W.nsIn K mainGlobals "list" = some none)
    (z_max : PySem.W.nsIn K mainGlobals "max" = some none)
    (z_min : PySem.W.nsIn K mainGlobals "min" = some none)
    (z_property : PySem.W.nsIn K mainGlobals "property" = some none)
    (z_range : PySem.W.nsIn K mainGlobals "range" = some none)
    (z_repr : PySem.W.nsIn K mainGlobals "repr" = some none)
    (z_set : PySem.W.nsIn K mainGlobals "set" = some none)
    (z_sorted : PySem.W.nsIn K mainGlobals "sorted" = some none)
    (z_str : PySem.W.nsIn K mainGlobals "str" = some none)
    (z_tuple : PySem.W.nsIn K mainGlobals "tuple" = some none)
    (g_MAX_LETTERS : PySem.W.nsIn K mainGlobals "MAX_LETTERS" = some (some (.int 8 t_MAX_LETTERS)))
    (g_MAX_PLACES : PySem.W.nsIn K mainGlobals "MAX_PLACES" = some (some (.int 15 t_MAX_PLACES)))
    (g_MAX_ORDER : PySem.W.nsIn K mainGlobals "MAX_ORDER" = some (some (.int 4 t_MAX_ORDER)))
    (g__ARROW : PySem.W.nsIn K mainGlobals "_ARROW" = some (some (.str " -> " t__ARROW)))
    (ea_InvalidType : PySem.W.nsIn K mainGlobals "InvalidType" = some (some (.ref C_InvalidType)))
    (ex_InvalidType : PySem.W.excIn K C_InvalidType [.type "ValueError", .type "Exception", .type "BaseException", .type "object"] "ValueError.__new__" = true)
    (ek_InvalidType : PySem.W.keepIn K (.ref C_InvalidType) = true)
    (eb_InvalidType : PySem.W.subIn K (.ref C_InvalidType) (.type "BaseException") = some true)
    (et_InvalidType : PySem.W.typeIn K (.ref C_InvalidType) = some (.type "type"))
    (ea_InvalidWord : PySem.W.nsIn K mainGlobals "InvalidWord" = some (some (.ref C_InvalidWord)))
    (ex_InvalidWord : PySem.W.excIn K C_InvalidWord [.type "ValueError", .type "Exception", .type "BaseException", .type "object"] "ValueError.__new__" = true)
    (ek_InvalidWord : PySem.W.keepIn K (.ref C_InvalidWord) = true)
    (eb_InvalidWord : PySem.W.subIn K (.ref C_InvalidWord) (.type "BaseException") = some true)
    (et_InvalidWord : PySem.W.typeIn K (.ref C_InvalidWord) = some (.type "type"))
    (ea_InvalidOperation : PySem.W.nsIn K mainGlobals "InvalidOperation" = some (some (.ref C_InvalidOperation)))
    (ex_InvalidOperation : PySem.W.excIn K C_InvalidOperation [.type "ValueError", .type "Exception", .type "BaseException", .type "object"] "ValueError.__new__" = true)
    (ek_InvalidOperation : PySem.W.keepIn K (.ref C_InvalidOperation) = true)
    (eb_InvalidOperation : PySem.W.subIn K (.ref C_InvalidOperation) (.type "BaseException") = some true)
    (et_InvalidOperation : PySem.W.typeIn K (.ref C_InvalidOperation) = some (.type "type"))
    (ea_BuildError : PySem.W.nsIn K mainGlobals "BuildError" = some (some (.ref C_BuildError)))
    (ex_BuildError : PySem.W.excIn K C_BuildError [.type "ValueError", .type "Exception", .type "BaseException", .type "object"] "ValueError.__new__" = true)
    (ek_BuildError : PySem.W.keepIn K (.ref C_BuildError) = true)
    (eb_BuildError : PySem.W.subIn K (.ref C_BuildError) (.type "BaseException") = some true)
    (et_BuildError : PySem.W.typeIn K (.ref C_BuildError) = some (.type "type"))
    (aC_PE : PySem.W.nsIn K mainGlobals "ParseError" = some (some (.ref C_ParseError)))
    (ex_iPE : PySem.W.excInitIn K C_ParseError [.type "ValueError", .type "Exception", .type "BaseException", .type "object"] "ValueError.__new__" = true)
    (ex_oPE : PySem.W.excOver K C_ParseError [.type "ValueError", .type "Exception", .type "BaseException", .type "object"] = true)
    (hd_PE : PySem.W.hasDictIn K C_ParseError = true)
    (sa_PE : PySem.W.findIn K (.ref C_ParseError) "__setattr__" = some (some (.builtin "object.__setattr__")))
    (sb_PE : PySem.W.subIn K (.ref C_ParseError) (.type "BaseException") = some true)
    (tyt_PE : PySem.W.typeIn K (.ref C_ParseError) = some (.type "type"))
    (kc_PE : PySem.W.keepIn K (.ref C_ParseError) = true)
    (ga_PE : PySem.W.findIn K (.ref C_ParseError) "__getattribute__" = some (some (.builtin "BaseException.__getattribute__")))
    (gg_PE : PySem.W.findIn K (.ref C_ParseError) "__getattr__" = some none)
    (fl_PE : PySem.W.findIn K (.ref C_ParseError) "line" = some none)
    (a_PE : PySem.W.findIn K (.ref C_ParseError) "__init__" = some (some (.ref fI_P)))
    (i_PE : PySem.W.isFn K (.ref fI_P) = true)
    (l_PE : K.lookup fI_P = some ⟨ocP, odP, .func (PySem.W.fnOf "__init__" "ParseError.__init__" (defArgs s_ParseError___init__) (defBody s_ParseError___init__) (defScope s_ParseError___init__) .none kVP dcP pmP anP cdP ctP), slP⟩)
    (c_PE : PySem.W.codeIn K cdP "ParseError.__init__" = true)
    (k_PE : PySem.W.keepIn K (.ref fI_P) = true)
    (rd_B : PySem.W.readsIn K C_BuildError (.type "type") = true)
    (ga_B : PySem.W.specialIn K (.ref C_BuildError) "__getattribute__" = some (some (.builtin "type.__getattribute__")))
    (ex_iniB : PySem.W.findCls K (.ref C_BuildError) (.type "type") "__init__" = some (.val (.builtin "ValueError.__init__")))
    (ex_m1 : PySem.W.exmAny K (.ref C_InvalidType) [.ref C_InvalidType, .ref C_InvalidWord] = some true)
    (ex_m2 : PySem.W.exmAny K (.ref C_InvalidWord) [.ref C_InvalidType, .ref C_InvalidWord] = some true)
    (aC_N : PySem.W.nsIn K mainGlobals "InvalidNumber" = some (some (.ref C_InvalidNumber)))
    (ex_iN : PySem.W.excInitIn K C_InvalidNumber [.type "RuntimeError", .type "Exception", .type "BaseException", .type "object"] "RuntimeError.__new__" = true)
    (ex_oN : PySem.W.excOver K C_InvalidNumber [.type "RuntimeError", .type "Exception", .type "BaseException", .type "object"] = true)
    (hd_N : PySem.W.hasDictIn K C_InvalidNumber = true)
    (sa_N : PySem.W.findIn K (.ref C_InvalidNumber) "__setattr__" = some (some (.builtin "object.__setattr__")))
    (sb_N : PySem.W.subIn K (.ref C_InvalidNumber) (.type "BaseException") = some true)
    (tyt_N : PySem.W.typeIn K (.ref C_InvalidNumber) = some (.type "type"))
    (kc_N : PySem.W.keepIn K (.ref C_InvalidNumber) = true)
    (ga_N : PySem.W.findIn K (.ref C_InvalidNumber) "__getattribute__" = some (some (.builtin "BaseException.__getattribute__")))
    (gg_N : PySem.W.findIn K (.ref C_InvalidNumber) "__getattr__" = some none)
    (fl_N : PySem.W.findIn K (.ref C_InvalidNumber) "number" = some none)
    (a_N : PySem.W.findIn K (.ref C_InvalidNumber) "__init__" = some (some (.ref fI_N)))
    (i_N : PySem.W.isFn K (.ref fI_N) = true)
    (l_N : K.lookup fI_N = some ⟨ocN, odN, .func (PySem.W.fnOf "__init__" "InvalidNumber.__init__" (defArgs s_InvalidNumber___init__) (defBody s_InvalidNumber___init__) (defScope s_InvalidNumber___init__) .none kVN dcN pmN anN cdN ctN), slN⟩)
    (c_N : PySem.W.codeIn K cdN "InvalidNumber.__init__" = true)
    (k_N : PySem.W.keepIn K (.ref fI_N) = true)
    (ex_vR : PySem.W.findCls K (.type "RuntimeError") (.type "type") "__init__" = some (.val (.builtin "RuntimeError.__init__")))
    (ex_mtt : PySem.W.exmOne K (.ref C_InvalidType) (.ref C_InvalidType) = some true)
    (ex_mwt : PySem.W.exmOne K (.ref C_InvalidWord) (.ref C_InvalidType) = some false)
    (ex_mww : PySem.W.exmOne K (.ref C_InvalidWord) (.ref C_InvalidWord) = some true)
    (ex_mot : PySem.W.exmOne K (.ref C_InvalidOperation) (.ref C_InvalidType) = some false)
    (ex_mow : PySem.W.exmOne K (.ref C_InvalidOperation) (.ref C_InvalidWord) = some false)
    (ex_moo : PySem.W.exmOne K (.ref C_InvalidOperation) (.ref C_InvalidOperation) = some true)
    (ex_mnt : PySem.W.exmOne K (.ref C_InvalidNumber) (.ref C_InvalidType) = some false)
    (ex_mnw : PySem.W.exmOne K (.ref C_InvalidNumber) (.ref C_InvalidWord) = some false)
    (ex_mno : PySem.W.exmOne K (.ref C_InvalidNumber) (.ref C_InvalidOperation) = some false)
    (ex_mnn : PySem.W.exmOne K (.ref C_InvalidNumber) (.ref C_InvalidNumber) = some true)
    (ex_mpt : PySem.W.exmOne K (.ref C_ParseError) (.ref C_InvalidType) = some false)
    (ex_mpw : PySem.W.exmOne K (.ref C_ParseError) (.ref C_InvalidWord) = some false)
    (ex_mpo : PySem.W.exmOne K (.ref C_ParseError) (.ref C_InvalidOperation) = some false)
    (ex_mpn : PySem.W.exmOne K (.ref C_ParseError) (.ref C_InvalidNumber) = some false)
    (ex_mpp : PySem.W.exmOne K (.ref C_ParseError) (.ref C_ParseError) = some true)
    (sn_NoneType : PySem.W.subIn K (.ref C_Type) (.type "NoneType") = some false)
    (sn_int : PySem.W.subIn K (.ref C_Type) (.type "int") = some false)
    (sn_str : PySem.W.subIn K (.ref C_Type) (.type "str") = some false)
    (sn_list : PySem.W.subIn K (.ref C_Type) (.type "list") = some false)
    (sn_tuple : PySem.W.subIn K (.ref C_Type) (.type "tuple") = some false)
    (sn_dict : PySem.W.subIn K (.ref C_Type) (.type "dict") = some false)
    (sb_bool : PySem.W.subIn K (.type "bool") (.ref C_Type) = some false)
    (r_RShift : PySem.W.findIn K (.ref C_Type) "__rrshift__" = some (some (.ref rg_RShift)))
    (i1_RShift_NoneType : PySem.W.findIn K (.type "NoneType") "__rshift__" = some fo_RShift_NoneType)
    (i2_RShift_NoneType : PySem.W.findIn K (.type "NoneType") "__rrshift__" = some ro_RShift_NoneType)
    (i1_RShift_int : PySem.W.findIn K (.type "int") "__rshift__" = some fo_RShift_int)
    (i2_RShift_int : PySem.W.findIn K (.type "int") "__rrshift__" = some ro_RShift_int)
    (i1_RShift_bool : PySem.W.findIn K (.type "bool") "__rshift__" = some fo_RShift_bool)
    (i2_RShift_bool : PySem.W.findIn K (.type "bool") "__rrshift__" = some ro_RShift_bool)
    (i1_RShift_str : PySem.W.findIn K (.type "str") "__rshift__" = some fo_RShift_str)
    (i2_RShift_str : PySem.W.findIn K (.type "str") "__rrshift__" = some ro_RShift_str)
    (i1_RShift_list : PySem.W.findIn K (.type "list") "__rshift__" = some fo_RShift_list)
    (i2_RShift_list : PySem.W.findIn K (.type "list") "__rrshift__" = some ro_RShift_list)
    (i1_RShift_tuple : PySem.W.findIn K (.type "tuple") "__rshift__" = some fo_RShift_tuple)
    (i2_RShift_tuple : PySem.W.findIn K (.type "tuple") "__rrshift__" = some ro_RShift_tuple)
    (i1_RShift_dict : PySem.W.findIn K (.type "dict") "__rshift__" = some fo_RShift_dict)
    (i2_RShift_dict : PySem.W.findIn K (.type "dict") "__rrshift__" = some ro_RShift_dict)
    (r_Mod : PySem.W.findIn K (.ref C_Type) "__rmod__" = some (some (.ref rg_Mod)))
    (i1_Mod_NoneType : PySem.W.findIn K (.type "NoneType") "__mod__" = some fo_Mod_NoneType)
    (i2_Mod_NoneType : PySem.W.findIn K (.type "NoneType") "__rmod__" = some ro_Mod_NoneType)
    (i1_Mod_int : PySem.W.findIn K (.type "int") "__mod__" = some fo_Mod_int)
    (i2_Mod_int : PySem.W.findIn K (.type "int") "__rmod__" = some ro_Mod_int)
    (i1_Mod_bool : PySem.W.findIn K (.type "bool") "__mod__" = some fo_Mod_bool)
    (i2_Mod_bool : PySem.W.findIn K (.type "bool") "__rmod__" = some ro_Mod_bool)
    (i1_Mod_str : PySem.W.findIn K (.type "str") "__mod__" = some fo_Mod_str)
    (i2_Mod_str : PySem.W.findIn K (.type "str") "__rmod__" = some ro_Mod_str)
    (i1_Mod_list : PySem.W.findIn K (.type "list") "__mod__" = some fo_Mod_list)
    (i2_Mod_list : PySem.W.findIn K (.type "list") "__rmod__" = some ro_Mod_list)
    (i1_Mod_tuple : PySem.W.findIn K (.type "tuple") "__mod__" = some fo_Mod_tuple)
    (i2_Mod_tuple : PySem.W.findIn K (.type "tuple") "__rmod__" = some ro_Mod_tuple)
    (i1_Mod_dict : PySem.W.findIn K (.type "dict") "__mod__" = some fo_Mod_dict)
    (i2_Mod_dict : PySem.W.findIn K (.type "dict") "__rmod__" = some ro_Mod_dict)
    (tk__law_made_wrongly : K.lookup cA__law_made_wrongly = some ⟨tcl__law_made_wrongly, tod__law_made_wrongly, .fields tvs__law_made_wrongly, tsl__law_made_wrongly⟩)
    (tp__law_made_wrongly : (tvs__law_made_wrongly[11]? : Option Value) = some (.ref PT__law_made_wrongly))
    (tm__law_made_wrongly : PT__law_made_wrongly ∈ ts)
    (tn__law_made_wrongly : K.lookup PT__law_made_wrongly = none)
    (th__law_made_wrongly : PySem.W.codeHdIn K cA__law_made_wrongly PT__law_made_wrongly = true)
    (tk__law_asked_wrongly : K.lookup cA__law_asked_wrongly = some ⟨tcl__law_asked_wrongly, tod__law_asked_wrongly, .fields tvs__law_asked_wrongly, tsl__law_asked_wrongly⟩)
    (tp__law_asked_wrongly : (tvs__law_asked_wrongly[11]? : Option Value) = some (.ref PT__law_asked_wrongly))
    (tm__law_asked_wrongly : PT__law_asked_wrongly ∈ ts)
    (tn__law_asked_wrongly : K.lookup PT__law_asked_wrongly = none)
    (th__law_asked_wrongly : PySem.W.codeHdIn K cA__law_asked_wrongly PT__law_asked_wrongly = true)
    (tk_law : K.lookup cA_law = some ⟨tcl_law, tod_law, .fields tvs_law, tsl_law⟩)
    (tp_law : (tvs_law[11]? : Option Value) = some (.ref PT_law))
    (tm_law : PT_law ∈ ts)
    (tn_law : K.lookup PT_law = none)
    (th_law : PySem.W.codeHdIn K cA_law PT_law = true)
    (ex_pt__law_made_wrongly__law_asked_wrongly : decide (PT__law_made_wrongly = PT__law_asked_wrongly) = false)
    (ex_pt__law_made_wrongly_law : decide (PT__law_made_wrongly = PT_law) = false)
    (ex_pt__law_asked_wrongly_law : decide (PT__law_asked_wrongly = PT_law) = false) :
    LawAtG l w K CX0 42 "_law_script" mg fa h := by
  have e := hfa.symm.trans (PySem.W.mg_of X G a_law)
  cases e
  have k_Type : Cls K C_Type := ⟨pg_Type, hd_Type, po_Type, sa_Type⟩
  have x_Type : XType K C_Type := ⟨n_inputs_Type, n_atom_Type, n_places_Type, n_order_Type, n_text_Type, fst_Type, nfs_Type, (ni_of (by decide +kernel) ni_str_Type), (odd_of hd_Type tyt_Type od_NoneType_Type), nf_NoneType_Type, (odd_of hd_Type tyt_Type od_int_Type), nf_int_Type, (odd_of hd_Type tyt_Type od_str_Type), nf_str_Type, (odd_of hd_Type tyt_Type od_tuple_Type), nf_tuple_Type, (odd_of hd_Type tyt_Type od_list_Type), nf_list_Type, (odd_of hd_Type tyt_Type od_dict_Type), nf_dict_Type, ne_Type, un_Type, cl1_Type, cl2_Type, cl3_Type, cl4_Type⟩
  have T : Txt K mg C_Type := ⟨PySem.W.mg_of X G aC_Type, k_Type, x_Type, PySem.W.mg_none_of X G z_RuntimeError, PySem.W.mg_none_of X G z_ValueError, PySem.W.mg_none_of X G z_abs, PySem.W.mg_none_of X G z_all, PySem.W.mg_none_of X G z_bool, PySem.W.mg_none_of X G z_classmethod, PySem.W.mg_none_of X G z_dict, PySem.W.mg_none_of X G z_int, PySem.W.mg_none_of X G z_isinstance, PySem.W.mg_none_of X G z_iter, PySem.W.mg_none_of X G z_len, PySem.W.mg_none_of X G z_list, PySem.W.mg_none_of X G z_max, PySem.W.mg_none_of X G z_min, PySem.W.mg_none_of X G z_property, PySem.W.mg_none_of X G z_range, PySem.W.mg_none_of X G z_repr, PySem.W.mg_none_of X G z_set, PySem.W.mg_none_of X G z_sorted, PySem.W.mg_none_of X G z_str, PySem.W.mg_none_of X G z_tuple, ⟨_, PySem.W.mg_of X G g_MAX_LETTERS, ⟨_, rfl⟩⟩, ⟨_, PySem.W.mg_of X G g_MAX_PLACES, ⟨_, rfl⟩⟩, ⟨_, PySem.W.mg_of X G g_MAX_ORDER, ⟨_, rfl⟩⟩, ⟨_, PySem.W.mg_of X G g__ARROW, ⟨_, rfl⟩⟩⟩
  have e_InvalidType : ErrT K mg "InvalidType" C_InvalidType := ⟨ex_InvalidType, PySem.W.mg_of X G ea_InvalidType, ek_InvalidType, eb_InvalidType, et_InvalidType⟩
  have e_InvalidWord : ErrT K mg "InvalidWord" C_InvalidWord := ⟨ex_InvalidWord, PySem.W.mg_of X G ea_InvalidWord, ek_InvalidWord, eb_InvalidWord, et_InvalidWord⟩
  have e_InvalidOperation : ErrT K mg "InvalidOperation" C_InvalidOperation := ⟨ex_InvalidOperation, PySem.W.mg_of X G ea_InvalidOperation, ek_InvalidOperation, eb_InvalidOperation, et_InvalidOperation⟩
  have e_BuildError : ErrT K mg "BuildError" C_BuildError := ⟨ex_BuildError, PySem.W.mg_of X G ea_BuildError, ek_BuildError, eb_BuildError, et_BuildError⟩
  refine ⟨PySem.W.fnOf "law" "law" (defArgs s_law) (defBody s_law) (defScope s_law) .none kV_law dc_law pm_law an_law (.ref cA_law) ct_law, [(cA__law_made_wrongly, PT__law_made_wrongly), (cA__law_asked_wrongly, PT__law_asked_wrongly), (cA_law, PT_law)], sp_law7 [(PT__law_made_wrongly, lamM), (PT__law_asked_wrongly, lamA), (PT_law, lamW)] K, fun p hp => by simp only [List.mem_cons, List.not_mem_nil, or_false] at hp; rcases hp with rfl | rfl | rfl <;> first | exact tabs _ tm__law_made_wrongly | exact tabs _ tm__law_asked_wrongly | exact tabs _ tm_law, fun p hp => by simp only [List.mem_cons, List.not_mem_nil, or_false] at hp; rcases hp with rfl | rfl | rfl <;> first | exact tn__law_made_wrongly | exact tn__law_asked_wrongly | exact tn_law, fun p hp => by simp only [List.mem_cons, List.not_mem_nil, or_false] at hp; rcases hp with rfl | rfl | rfl <;> first | exact PySem.W.codeHd_of_K X th__law_made_wrongly | exact PySem.W.codeHd_of_K X th__law_asked_wrongly | exact PySem.W.codeHd_of_K X th_law, fun s v => .of_eq rfl, fun H a ns hn ht hs => ⟨a, ns, rfl, hs, hn, fun p hp => by simp only [List.mem_cons, List.not_mem_nil, or_false] at hp; rcases hp with rfl | rfl | rfl <;> first | exact LamX.TabS.nil (ht (cA__law_made_wrongly, PT__law_made_wrongly) (by simp)) | exact LamX.TabS.nil (ht (cA__law_asked_wrongly, PT__law_asked_wrongly) (by simp)) | exact LamX.TabS.nil (ht (cA_law, PT_law) (by simp)), fun _ => rfl⟩, fun base _ _ TBs => ?_⟩
  have TB__law_made_wrongly := TBs (cA__law_made_wrongly, PT__law_made_wrongly) (by simp)
  have inT__law_made_wrongly : (PT__law_made_wrongly, lamM) ∈ ([(PT__law_made_wrongly, lamM), (PT__law_asked_wrongly, lamA), (PT_law, lamW)] : List (Addr × Str)) := by simp
  have just__law_made_wrongly : ∀ p ∈ ([(PT__law_made_wrongly, lamM), (PT__law_asked_wrongly, lamA), (PT_law, lamW)] : List (Addr × Str)), p.1 = PT__law_made_wrongly → p.2 = lamM := fun p hp e => by simp only [List.mem_cons, List.not_mem_nil, or_false] at hp; rcases hp with rfl | rfl | rfl <;> first | exact (absurd e.symm (of_decide_eq_false ex_pt__law_made_wrongly__law_asked_wrongly)) | exact (absurd e.symm (of_decide_eq_false ex_pt__law_made_wrongly_law)) | exact rfl
  have TB__law_asked_wrongly := TBs (cA__law_asked_wrongly, PT__law_asked_wrongly) (by simp)
  have inT__law_asked_wrongly : (PT__law_asked_wrongly, lamA) ∈ ([(PT__law_made_wrongly, lamM), (PT__law_asked_wrongly, lamA), (PT_law, lamW)] : List (Addr × Str)) := by simp
  have just__law_asked_wrongly : ∀ p ∈ ([(PT__law_made_wrongly, lamM), (PT__law_asked_wrongly, lamA), (PT_law, lamW)] : List (Addr × Str)), p.1 = PT__law_asked_wrongly → p.2 = lamA := fun p hp e => by simp only [List.mem_cons, List.not_mem_nil, or_false] at hp; rcases hp with rfl | rfl | rfl <;> first | exact (absurd e (of_decide_eq_false ex_pt__law_made_wrongly__law_asked_wrongly)) | exact (absurd e.symm (of_decide_eq_false ex_pt__law_asked_wrongly_law)) | exact rfl
  have TB_law := TBs (cA_law, PT_law) (by simp)
  have inT_law : (PT_law, lamW) ∈ ([(PT__law_made_wrongly, lamM), (PT__law_asked_wrongly, lamA), (PT_law, lamW)] : List (Addr × Str)) := by simp
  have just_law : ∀ p ∈ ([(PT__law_made_wrongly, lamM), (PT__law_asked_wrongly, lamA), (PT_law, lamW)] : List (Addr × Str)), p.1 = PT_law → p.2 = lamW := fun p hp e => by simp only [List.mem_cons, List.not_mem_nil, or_false] at hp; rcases hp with rfl | rfl | rfl <;> first | exact (absurd e (of_decide_eq_false ex_pt__law_made_wrongly_law)) | exact (absurd e (of_decide_eq_false ex_pt__law_asked_wrongly_law)) | exact rfl
  have F__is_tuple_of_types := fun_mk (st := s__is_tuple_of_types) l__is_tuple_of_types c__is_tuple_of_types k__is_tuple_of_types
  have B__is_tuple_of_types := F__is_tuple_of_types.binds (ps := ["value"]) fun _ _ _ _ _ _ us hl => match us, hl with | [_], _ => rfl
  have D__is_tuple_of_types : CalN l.prog w K mg base "_is_tuple_of_types" 1 ["value"] (sp__is_tuple_of_types K C_Type) := ⟨_, _, ok__is_tuple_of_types (P := l.prog) (w := w) (base := base) T F__is_tuple_of_types, PySem.W.mg_of X G a__is_tuple_of_types, k__is_tuple_of_types, B__is_tuple_of_types⟩
  have F_is_word := fun_mk (st := s_is_word) l_is_word c_is_word k_is_word
  have B_is_word := F_is_word.binds (ps := ["value"]) fun _ _ _ _ _ _ us hl => match us, hl with | [_], _ => rfl
  have D_is_word : CalN l.prog w K mg base "is_word" 1 ["value"] (sp_is_word K) := ⟨_, _, ok_is_word (P := l.prog) (w := w) (base := base) T F_is_word, PySem.W.mg_of X G a_is_word, k_is_word, B_is_word⟩
  have F_Type_order := fun_mk (st := s_Type_order) l_Type_order c_Type_order k_Type_order
  have B_Type_order := F_Type_order.binds (ps := ["self"]) fun _ _ _ _ _ _ us hl => match us, hl with | [_], _ => rfl
  have D_Type_order : PrpC l.prog w K mg base C_Type "order" 1 ["self"] (getSp C_Type "_order") := ⟨_, _, _, F_Type_order.getter sc_Type_order k_Type x_Type.n_order, ⟨a_Type_order, g_Type_order, t_Type_order, _, r_Type_order⟩, B_Type_order⟩
  have F_Type_inputs := fun_mk (st := s_Type_inputs) l_Type_inputs c_Type_inputs k_Type_inputs
  have B_Type_inputs := F_Type_inputs.binds (ps := ["self"]) fun _ _ _ _ _ _ us hl => match us, hl with | [_], _ => rfl
  have D_Type_inputs : PrpC l.prog w K mg base C_Type "inputs" 1 ["self"] (getSp C_Type "_inputs") := ⟨_, _, _, F_Type_inputs.getter sc_Type_inputs k_Type x_Type.n_inputs, ⟨a_Type_inputs, g_Type_inputs, t_Type_inputs, _, r_Type_inputs⟩, B_Type_inputs⟩
  have F_Type_text := fun_mk (st := s_Type_text) l_Type_text c_Type_text k_Type_text
  have B_Type_text := F_Type_text.binds (ps := ["self"]) fun _ _ _ _ _ _ us hl => match us, hl with | [_], _ => rfl
  have D_Type_text : PrpC l.prog w K mg base C_Type "text" 1 ["self"] (getSp C_Type "_text") := ⟨_, _, _, F_Type_text.getter sc_Type_text k_Type x_Type.n_text, ⟨a_Type_text, g_Type_text, t_Type_text, _, r_Type_text⟩, B_Type_text⟩
  have F__text_inside := fun_mk (st := s__text_inside) l__text_inside c__text_inside k__text_inside
  have B__text_inside := F__text_inside.binds (ps := ["wanted"]) fun _ _ _ _ _ _ us hl => match us, hl with | [_], _ => rfl
  have D__text_inside : CalN l.prog w K mg base "_text_inside" 3 ["wanted"] (sp__text_inside K C_Type) := ⟨_, _, ok__text_inside (P := l.prog) (w := w) (base := base) T D_Type_inputs D_Type_text F__text_inside, PySem.W.mg_of X G a__text_inside, k__text_inside, B__text_inside⟩
  have F_Type___init__ := fun_mk (st := s_Type___init__) l_Type___init__ c_Type___init__ k_Type___init__
  have B_Type___init__ := F_Type___init__.binds (ps := ["self", "inputs", "atom"]) fun _ _ _ _ _ _ us hl => match us, hl with | [_, _, _], _ => rfl
  have D_Type___init__ : MakC l.prog w K mg base C_Type 4 ["self", "inputs", "atom"] (sp_Type___init__ K C_Type) := ⟨_, _, ok_Type___init__ (P := l.prog) (w := w) (base := base) T D__is_tuple_of_types D_is_word D_Type_order D__text_inside F_Type___init__, ⟨mk_Type, a_Type___init__, i_Type___init__, kc_Type⟩, B_Type___init__⟩
  have D_initN : MakY (L2N.CX l.prog w) l.prog w K mg base C_Type 4 ["self", "inputs", "atom"] (sp_Type_initN K C_Type C_InvalidType C_InvalidWord) := ⟨_, _, ok_Type_initN (P := l.prog) (w := w) (base := base) T e_InvalidType e_InvalidWord D__is_tuple_of_types D_is_word D_Type_order D__text_inside F_Type___init__, ⟨mk_Type, a_Type___init__, i_Type___init__, kc_Type⟩, B_Type___init__⟩
  have D_initX : MakX l.prog w K mg base C_Type 4 ["self", "inputs", "atom"] (sp_Type_initX K C_Type C_InvalidType) := ⟨_, _, ok_Type_initX (P := l.prog) (w := w) (base := base) T e_InvalidType D__is_tuple_of_types D_is_word D_Type_order D__text_inside F_Type___init__, ⟨mk_Type, a_Type___init__, i_Type___init__, kc_Type⟩, B_Type___init__⟩
  have D_tysO : CalN l.prog w K mg base "_is_tuple_of_types" 1 ["value"] (fun vs H Q E => sp__is_tuple_of_types K C_Type vs H Q E ∨ sp_noTys K C_Type vs H Q E) := ⟨_, _, (ok__is_tuple_of_types (P := l.prog) (w := w) (base := base) T F__is_tuple_of_types).or (ok_noTys (P := l.prog) (w := w) (base := base) T F__is_tuple_of_types), PySem.W.mg_of X G a__is_tuple_of_types, k__is_tuple_of_types, B__is_tuple_of_types⟩
  have FO := ok_Type_initO (P := l.prog) (w := w) (base := base) T e_InvalidType e_InvalidWord D_tysO D_is_word D_Type_order D__text_inside F_Type___init__
  have D_initO : MakX l.prog w K mg base C_Type 4 ["self", "inputs", "atom"] (sp_Type_initO K C_Type C_InvalidType C_InvalidWord) := ⟨_, _, FO, ⟨mk_Type, a_Type___init__, i_Type___init__, kc_Type⟩, B_Type___init__⟩
  have D_initOY : MakY (L2.CX l.prog w) l.prog w K mg base C_Type 4 ["self", "inputs", "atom"] (sp_Type_initO K C_Type C_InvalidType C_InvalidWord) := ⟨_, _, FO, ⟨mk_Type, a_Type___init__, i_Type___init__, kc_Type⟩, B_Type___init__⟩
  have F__pieces := fun_mk (st := s__pieces) l__pieces c__pieces k__pieces
  have B__pieces := F__pieces.binds (ps := ["text"]) fun _ _ _ _ _ _ us hl => match us, hl with | [_], _ => rfl
  have D__pieces : CalN l.prog w K mg base "_pieces" 1 ["text"] (sp__pieces K) := ⟨_, _, ok__pieces (P := l.prog) (w := w) (base := base) T F__pieces, PySem.W.mg_of X G a__pieces, k__pieces, B__pieces⟩
  have F_Type_plain := fun_mk (st := s_Type_plain) l_Type_plain c_Type_plain k_Type_plain
  have B_Type_plain := F_Type_plain.binds (ps := ["cls", "atom"]) fun _ _ _ _ _ _ us hl => match us, hl with | [_, _], _ => rfl
  have D_Type_plain : CmtC l.prog w K mg base C_Type "plain" 6 ["cls", "atom"] (sp_Type_plain K C_Type) := ⟨_, _, _, _, ok_Type_plain (P := l.prog) (w := w) (base := base) T D_Type___init__ F_Type_plain, ⟨rd_Type, ga_Type⟩, ⟨a_Type_plain, ⟨_, r_Type_plain⟩, fi_Type_plain⟩, B_Type_plain⟩
  have D_plainN : CmtY (L2N.CX l.prog w) l.prog w K mg base C_Type "plain" 6 ["cls", "atom"] (sp_Type_plainN K C_Type C_InvalidWord) := ⟨_, _, _, _, ok_Type_plainN (P := l.prog) (w := w) (base := base) T D_initN F_Type_plain, ⟨rd_Type, ga_Type⟩, ⟨a_Type_plain, ⟨_, r_Type_plain⟩, fi_Type_plain⟩, B_Type_plain⟩
  have D_plainO : CmtY (L2.CX l.prog w) l.prog w K mg base C_Type "plain" 6 ["cls", "atom"] (sp_Type_plainO K C_Type C_InvalidWord) := ⟨_, _, _, _, ok_Type_plainO (P := l.prog) (w := w) (base := base) T D_initOY F_Type_plain, ⟨rd_Type, ga_Type⟩, ⟨a_Type_plain, ⟨_, r_Type_plain⟩, fi_Type_plain⟩, B_Type_plain⟩
  have F__read_freely := fun_mk (st := s__read_freely) l__read_freely c__read_freely k__read_freely
  have B__read_freely := F__read_freely.binds (ps := ["text", "depth"]) fun _ _ _ _ _ _ us hl => match us, hl with | [_, _], _ => rfl
  have F__read_piece := fun_mk (st := s__read_piece) l__read_piece c__read_piece k__read_piece
  have B__read_piece := F__read_piece.binds (ps := ["piece", "depth"]) fun _ _ _ _ _ _ us hl => match us, hl with | [_, _], _ => rfl
  have RN := (ok_read_bothN (P := l.prog) (w := w) (base := base) T D_initN D__pieces D_plainN F__read_freely (PySem.W.mg_of X G a__read_freely) B__read_freely F__read_piece (PySem.W.mg_of X G a__read_piece) B__read_piece 5).1
  have F__kept := fun_mk (st := s__kept) l__kept c__kept k__kept
  have B__kept := F__kept.binds (ps := ["value"]) fun _ _ _ _ _ _ us hl => match us, hl with | [_], _ => rfl
  have K1 := ok_keptN (P := l.prog) (w := w) (base := base) T F__kept
  have KH := ok_keptH (P := l.prog) (w := w) (base := base) T F__kept
  have F_PE := fun_mk (st := s_ParseError___init__) l_PE c_PE k_PE
  have B_PE := F_PE.binds (ps := ["self", "line"]) fun _ _ _ _ _ _ us hl => match us, hl with | [_, _], _ => rfl
  have e_PE : ErrP K mg "ParseError" "BuildError" C_ParseError C_BuildError fI_P "line" := ⟨⟨⟨_, _, _, exB_ValueError, ex_iPE, ex_oPE⟩, hd_PE, sa_PE, sb_PE, tyt_PE, kc_PE, ga_PE, gg_PE⟩, ex_iPE, fl_PE, PySem.W.mg_of X G aC_PE, PySem.W.mg_of X G ea_BuildError, ⟨rd_B, ga_B⟩, ex_iniB, a_PE, beq_iff_eq.mp i_PE⟩
  have P1 := ok_parseN (P := l.prog) (w := w) (base := base) T e_PE ⟨_, _, K1, PySem.W.mg_of X G a__kept, k__kept, B__kept⟩ F_PE
  have PH := ok_parseH (P := l.prog) (w := w) (base := base) T e_PE KH (PySem.W.mg_of X G a__kept) k__kept B__kept F_PE
  have D_keptE : CalN l.prog w K mg base "_kept" 6 ["value"] (sp__kept K) := ⟨_, _, ok__kept (P := l.prog) (w := w) (base := base) T F__kept (PySem.W.mg_of X G a__kept) B__kept 5, PySem.W.mg_of X G a__kept, k__kept, B__kept⟩
  have F_N := fun_mk (st := s_InvalidNumber___init__) l_N c_N k_N
  have B_N := F_N.binds (ps := ["self", "number"]) fun _ _ _ _ _ _ us hl => match us, hl with | [_, _], _ => rfl
  have e_N : ErrE K mg "InvalidNumber" C_InvalidNumber fI_N "RuntimeError.__init__" "number" := ⟨⟨⟨_, _, _, exB_RuntimeError, ex_iN, ex_oN⟩, hd_N, sa_N, sb_N, tyt_N, kc_N, ga_N, gg_N⟩, fl_N, PySem.W.mg_of X G aC_N, a_N, beq_iff_eq.mp i_N⟩
  have F1N := ok_num7 (P := l.prog) (w := w) (base := base) T e_N T.b_RuntimeError ex_vR D_keptE F_N
  have F_Type_atom := fun_mk (st := s_Type_atom) l_Type_atom c_Type_atom k_Type_atom
  have B_Type_atom := F_Type_atom.binds (ps := ["self"]) fun _ _ _ _ _ _ us hl => match us, hl with | [_], _ => rfl
  have D_Type_atom : PrpC l.prog w K mg base C_Type "atom" 1 ["self"] (getSp C_Type "_atom") := ⟨_, _, _, F_Type_atom.getter sc_Type_atom k_Type x_Type.n_atom, ⟨a_Type_atom, g_Type_atom, t_Type_atom, _, r_Type_atom⟩, B_Type_atom⟩
  have F_Type_atoms := fun_mk (st := s_Type_atoms) l_Type_atoms c_Type_atoms k_Type_atoms
  have B_Type_atoms := F_Type_atoms.binds (ps := ["self"]) fun _ _ _ _ _ _ us hl => match us, hl with | [_], _ => rfl
  have D_Type_atoms : PrpC l.prog w K mg base C_Type "atoms" 1 ["self"] (sp_Type_atoms K C_Type) := ⟨_, _, _, ok_Type_atoms (P := l.prog) (w := w) (base := base) T F_Type_atoms, ⟨a_Type_atoms, g_Type_atoms, t_Type_atoms, _, r_Type_atoms⟩, B_Type_atoms⟩
  have F_Type_read := fun_mk (st := s_Type_read) l_Type_read c_Type_read k_Type_read
  have B_Type_read := F_Type_read.binds (ps := ["cls", "text"]) fun _ _ _ _ _ _ us hl => match us, hl with | [_, _], _ => rfl
  have D_readX : CmtY (L2.CX l.prog w) l.prog w K mg base C_Type "read" 18 ["cls", "text"] (sp_Type_readX K C_Type C_ParseError) := ⟨_, _, _, _, ok_Type_readX (P := l.prog) (w := w) (base := base) T e_InvalidType e_InvalidWord e_PE ex_m1 ex_m2 P1 PH B_PE RN (PySem.W.mg_of X G a__read_freely) k__read_freely B__read_freely D_Type_text F_Type_read, ⟨rd_Type, ga_Type⟩, ⟨a_Type_read, ⟨_, r_Type_read⟩, fi_Type_read⟩, B_Type_read⟩
  have D_readOX : CmtY (L2.CX l.prog w) l.prog w K mg base C_Type "read" 18 ["cls", "text"] (fun vs H Q E => sp_Type_readO K C_Type C_ParseError vs H Q E ∨ sp_Type_readX K C_Type C_ParseError vs H Q E) := ⟨_, _, _, _, (ok_Type_readO (P := l.prog) (w := w) (base := base) T e_PE P1 B_PE F_Type_read).or (ok_Type_readX (P := l.prog) (w := w) (base := base) T e_InvalidType e_InvalidWord e_PE ex_m1 ex_m2 P1 PH B_PE RN (PySem.W.mg_of X G a__read_freely) k__read_freely B__read_freely D_Type_text F_Type_read), ⟨rd_Type, ga_Type⟩, ⟨a_Type_read, ⟨_, r_Type_read⟩, fi_Type_read⟩, B_Type_read⟩
  have F_is_integer := fun_mk (st := s_is_integer) l_is_integer c_is_integer k_is_integer
  have B_is_integer := F_is_integer.binds (ps := ["value"]) fun _ _ _ _ _ _ us hl => match us, hl with | [_], _ => rfl
  have D_is_integer : CalN l.prog w K mg base "is_integer" 1 ["value"] (sp_int7 K) := ⟨_, _, ok_int7 (P := l.prog) (w := w) (base := base) T F_is_integer, PySem.W.mg_of X G a_is_integer, k_is_integer, B_is_integer⟩
  have F__is_renaming := fun_mk (st := s__is_renaming) l__is_renaming c__is_renaming k__is_renaming
  have B__is_renaming := F__is_renaming.binds (ps := ["names", "atoms"]) fun _ _ _ _ _ _ us hl => match us, hl with | [_, _], _ => rfl
  have D__is_renaming : CalN l.prog w K mg base "_is_renaming" 2 ["names", "atoms"] (sp__is_renaming K) := ⟨_, _, ok__is_renaming (P := l.prog) (w := w) (base := base) T D_is_word F__is_renaming, PySem.W.mg_of X G a__is_renaming, k__is_renaming, B__is_renaming⟩
  have D_ren7 : CalN l.prog w K mg base "_is_renaming" 2 ["names", "atoms"] (sp_ren7 K) := ⟨_, _, ok_ren7 (P := l.prog) (w := w) (base := base) T D_is_word F__is_renaming, PySem.W.mg_of X G a__is_renaming, k__is_renaming, B__is_renaming⟩
  have F_Type___eq__ := fun_mk (st := s_Type___eq__) l_Type___eq__ c_Type___eq__ k_Type___eq__
  have B_Type___eq__ := F_Type___eq__.binds (ps := ["self", "other"]) fun _ _ _ _ _ _ us hl => match us, hl with | [_, _], _ => rfl
  have D_eqX : MetC l.prog w K mg base C_Type "__eq__" 1 ["self", "other"] (sp_Type_eqX K C_Type) := ⟨_, _, ok_Type_eqX (P := l.prog) (w := w) (base := base) T F_Type___eq__, ⟨a_Type___eq__, i_Type___eq__, k_Type___eq__⟩, B_Type___eq__⟩
  have F_Type___rshift__ := fun_mk (st := s_Type___rshift__) l_Type___rshift__ c_Type___rshift__ k_Type___rshift__
  have B_Type___rshift__ := F_Type___rshift__.binds (ps := ["self", "other"]) fun _ _ _ _ _ _ us hl => match us, hl with | [_, _], _ => rfl
  have D_rshX : MetX l.prog w K mg base C_Type "__rshift__" 6 ["self", "other"] (sp_Type_rshX K C_Type C_InvalidType) := ⟨_, _, ok_Type_rshX (P := l.prog) (w := w) (base := base) T D_initX D_Type_inputs D_Type_atom F_Type___rshift__, ⟨a_Type___rshift__, i_Type___rshift__, k_Type___rshift__⟩, B_Type___rshift__⟩
  have D_rshO : MetX l.prog w K mg base C_Type "__rshift__" 6 ["self", "other"] (sp_Type_rshO K C_Type C_InvalidOperation) := ⟨_, _, ok_Type_rshO (P := l.prog) (w := w) (base := base) T e_InvalidOperation D_initX D_Type_inputs D_Type_atom F_Type___rshift__, ⟨a_Type___rshift__, i_Type___rshift__, k_Type___rshift__⟩, B_Type___rshift__⟩
  have F_Type___mod__ := fun_mk (st := s_Type___mod__) l_Type___mod__ c_Type___mod__ k_Type___mod__
  have B_Type___mod__ := F_Type___mod__.binds (ps := ["self", "other"]) fun _ _ _ _ _ _ us hl => match us, hl with | [_, _], _ => rfl
  have D_modO : MetX l.prog w K mg base C_Type "__mod__" 6 ["self", "other"] (sp_Type_modO K C_Type C_InvalidOperation) := ⟨_, _, ok_Type_modO (P := l.prog) (w := w) (base := base) T e_InvalidOperation D_initX D_is_integer F_Type___mod__, ⟨a_Type___mod__, i_Type___mod__, k_Type___mod__⟩, B_Type___mod__⟩
  have F_Type_renamed := fun_mk (st := s_Type_renamed) l_Type_renamed c_Type_renamed k_Type_renamed
  have B_Type_renamed := F_Type_renamed.binds (ps := ["self", "names"]) fun _ _ _ _ _ _ us hl => match us, hl with | [_, _], _ => rfl
  have D_Type_renamed : MetC l.prog w K mg base C_Type "renamed" 12 ["self", "names"] (sp_Type_renamed K C_Type) := ⟨_, _, ok_Type_renamed (P := l.prog) (w := w) (base := base) T D_Type___init__ D__is_renaming D_Type_atoms F_Type_renamed ⟨a_Type_renamed, i_Type_renamed, k_Type_renamed⟩ B_Type_renamed 6, ⟨a_Type_renamed, i_Type_renamed, k_Type_renamed⟩, B_Type_renamed⟩
  have D_renO : MetX l.prog w K mg base C_Type "renamed" 6 ["self", "names"] (sp_Type_renO K C_Type C_InvalidOperation) := ⟨_, _, ok_Type_renO (P := l.prog) (w := w) (base := base) T e_InvalidOperation D_ren7 D_Type_atoms F_Type_renamed, ⟨a_Type_renamed, i_Type_renamed, k_Type_renamed⟩, B_Type_renamed⟩
  have F_Type_put := fun_mk (st := s_Type_put) l_Type_put c_Type_put k_Type_put
  have B_Type_put := F_Type_put.binds (ps := ["self", "atom", "other"]) fun _ _ _ _ _ _ us hl => match us, hl with | [_, _, _], _ => rfl
  have D_putX : MetX l.prog w K mg base C_Type "put" 12 ["self", "atom", "other"] (spr_Type_putX 6 K C_Type C_InvalidType) := ⟨_, _, ok_Type_putX (P := l.prog) (w := w) (base := base) T D_initX D_is_word D_Type_inputs D_Type_atom F_Type_put ⟨a_Type_put, i_Type_put, k_Type_put⟩ B_Type_put 6, ⟨a_Type_put, i_Type_put, k_Type_put⟩, B_Type_put⟩
  have D_putO : MetX l.prog w K mg base C_Type "put" 6 ["self", "atom", "other"] (sp_Type_putO K C_Type C_InvalidType C_InvalidWord) := ⟨_, _, ok_Type_putO (P := l.prog) (w := w) (base := base) T e_InvalidType e_InvalidWord D_is_word F_Type_put, ⟨a_Type_put, i_Type_put, k_Type_put⟩, B_Type_put⟩
  have F_Type___getitem__ := fun_mk (st := s_Type___getitem__) l_Type___getitem__ c_Type___getitem__ k_Type___getitem__
  have B_Type___getitem__ := F_Type___getitem__.binds (ps := ["self", "at"]) fun _ _ _ _ _ _ us hl => match us, hl with | [_, _], _ => rfl
  have D_getO : MetGX l.prog w K mg base C_Type "__getitem__" 9 ["self", "at"] (sp_Type_getO K C_Type C_InvalidNumber) := ⟨_, _, ok_Type_getO (P := l.prog) (w := w) (base := base) T e_N F1N B_N D_is_integer F_Type___getitem__, ⟨a_Type___getitem__, i_Type___getitem__, k_Type___getitem__⟩, B_Type___getitem__⟩
  have F__law_refusal := fun_mk (st := s__law_refusal) l__law_refusal c__law_refusal k__law_refusal
  have B__law_refusal := F__law_refusal.binds (ps := ["_law_call"]) fun _ _ _ _ _ _ us hl => match us, hl with | [_], _ => rfl
  have e_ref : Ref7 K mg C_InvalidType C_InvalidWord C_InvalidOperation C_InvalidNumber C_ParseError := ⟨PySem.W.mg_of X G ea_InvalidType, PySem.W.mg_of X G ea_InvalidWord, PySem.W.mg_of X G ea_InvalidOperation, e_N.g, e_PE.g, T.b_repr, e_N.o.xf, e_N.fld, e_PE.o.xf, e_PE.fld⟩
  have x7 : Exm7 K C_InvalidType C_InvalidWord C_InvalidOperation C_InvalidNumber C_ParseError := ⟨ex_mtt, ex_mwt, ex_mww, ex_mot, ex_mow, ex_moo, ex_mnt, ex_mnw, ex_mno, ex_mnn, ex_mpt, ex_mpw, ex_mpo, ex_mpn, ex_mpp⟩
  have N7 : NeL K C_Type := ⟨ne_Type, un_Type, fun Ty0 m => by simp only [List.mem_cons, List.not_mem_nil, or_false] at m; rcases m with rfl | rfl | rfl | rfl | rfl | rfl <;> first | exact sn_NoneType | exact sn_int | exact sn_str | exact sn_list | exact sn_tuple | exact sn_dict⟩
  have OS : OwnA K C_Type .RShift := ⟨fst_Type, ⟨_, r_RShift, .inr ⟨_, rfl⟩⟩, fun Ty0 m => by simp only [List.mem_cons, List.not_mem_nil, or_false] at m; rcases m with rfl | rfl | rfl | rfl | rfl | rfl | rfl <;> first | exact ⟨_, _, i1_RShift_NoneType, i2_RShift_NoneType, od_NoneType_Type⟩ | exact ⟨_, _, i1_RShift_int, i2_RShift_int, od_int_Type⟩ | exact ⟨_, _, i1_RShift_bool, i2_RShift_bool, sb_bool⟩ | exact ⟨_, _, i1_RShift_str, i2_RShift_str, od_str_Type⟩ | exact ⟨_, _, i1_RShift_list, i2_RShift_list, od_list_Type⟩ | exact ⟨_, _, i1_RShift_tuple, i2_RShift_tuple, od_tuple_Type⟩ | exact ⟨_, _, i1_RShift_dict, i2_RShift_dict, od_dict_Type⟩⟩
  have OM : OwnA K C_Type .Mod := ⟨fst_Type, ⟨_, r_Mod, .inr ⟨_, rfl⟩⟩, fun Ty0 m => by simp only [List.mem_cons, List.not_mem_nil, or_false] at m; rcases m with rfl | rfl | rfl | rfl | rfl | rfl | rfl <;> first | exact ⟨_, _, i1_Mod_NoneType, i2_Mod_NoneType, od_NoneType_Type⟩ | exact ⟨_, _, i1_Mod_int, i2_Mod_int, od_int_Type⟩ | exact ⟨_, _, i1_Mod_bool, i2_Mod_bool, sb_bool⟩ | exact ⟨_, _, i1_Mod_str, i2_Mod_str, od_str_Type⟩ | exact ⟨_, _, i1_Mod_list, i2_Mod_list, od_list_Type⟩ | exact ⟨_, _, i1_Mod_tuple, i2_Mod_tuple, od_tuple_Type⟩ | exact ⟨_, _, i1_Mod_dict, i2_Mod_dict, od_dict_Type⟩⟩
  have F__law_text := fun_mk (st := s__law_text) l__law_text c__law_text k__law_text
  have B__law_text := F__law_text.binds (ps := ["_law_kind_here"]) fun _ _ _ _ _ _ us hl => match us, hl with | [_], _ => rfl
  have D__law_text : CalN l.prog w K mg base "_law_text" 7 ["_law_kind_here"] (sp__law_text K) := ⟨_, _, ok__law_text (P := l.prog) (w := w) (base := base) T F__law_text (PySem.W.mg_of X G a__law_text) B__law_text 6, PySem.W.mg_of X G a__law_text, k__law_text, B__law_text⟩
  have F__law_roll := fun_mk (st := s__law_roll) l__law_roll c__law_roll k__law_roll
  have B__law_roll := F__law_roll.binds (ps := ["_law_dice_here", "_law_total"]) fun _ _ _ _ _ _ us hl => match us, hl with | [_, _], _ => rfl
  have D__law_roll : CalN l.prog w K mg base "_law_roll" 1 ["_law_dice_here", "_law_total"] (sp__law_roll K) := ⟨_, _, ok__law_roll (P := l.prog) (w := w) (base := base) T F__law_roll, PySem.W.mg_of X G a__law_roll, k__law_roll, B__law_roll⟩
  have F__law_pick := fun_mk (st := s__law_pick) l__law_pick c__law_pick k__law_pick
  have B__law_pick := F__law_pick.binds (ps := ["_law_dice_here", "_law_items"]) fun _ _ _ _ _ _ us hl => match us, hl with | [_, _], _ => rfl
  have D__law_pick : CalN l.prog w K mg base "_law_pick" 2 ["_law_dice_here", "_law_items"] (sp__law_pick K) := ⟨_, _, ok__law_pick (P := l.prog) (w := w) (base := base) T D__law_roll F__law_pick, PySem.W.mg_of X G a__law_pick, k__law_pick, B__law_pick⟩
  have F__law_made_wrongly := fun_mk (st := s__law_made_wrongly) l__law_made_wrongly c__law_made_wrongly k__law_made_wrongly
  have B__law_made_wrongly := F__law_made_wrongly.binds (ps := ["_law_dice_here", "_law_made"]) fun _ _ _ _ _ _ us hl => match us, hl with | [_, _], _ => rfl
  have D_mw : Cal l.prog w K mg base "_law_made_wrongly" 21 ["_law_dice_here", "_law_made"] (sp__law_made_wrongly _ K C_Type) := ⟨_, _, ok__law_made_wrongly (P := l.prog) (w := w) (base := base) T N7 e_ref x7 D__law_pick D_Type_text D_initO D_plainO D_putO D_readOX D_eqX F__law_refusal (PySem.W.mg_of X G a__law_refusal) B__law_refusal TB__law_made_wrongly inT__law_made_wrongly just__law_made_wrongly F__law_made_wrongly rfl, PySem.W.mg_of X G a__law_made_wrongly, k__law_made_wrongly, B__law_made_wrongly⟩
  have F__law_asked_wrongly := fun_mk (st := s__law_asked_wrongly) l__law_asked_wrongly c__law_asked_wrongly k__law_asked_wrongly
  have B__law_asked_wrongly := F__law_asked_wrongly.binds (ps := ["_law_dice_here", "_law_made"]) fun _ _ _ _ _ _ us hl => match us, hl with | [_, _], _ => rfl
  have D_aw : Cal l.prog w K mg base "_law_asked_wrongly" 21 ["_law_dice_here", "_law_made"] (sp__law_asked_wrongly _ K C_Type) := ⟨_, _, ok__law_asked_wrongly (P := l.prog) (w := w) (base := base) T N7 tyt_Type e_ref x7 D__law_pick D_Type_text D_Type_inputs D_Type_atoms D_getO (fun f M => by have e := M.at_.symm.trans a_Type___getitem__; cases e; exact fi_Type___getitem__) D_rshO OS D_modO OM D_renO D_Type_renamed F__law_refusal (PySem.W.mg_of X G a__law_refusal) B__law_refusal TB__law_asked_wrongly inT__law_asked_wrongly just__law_asked_wrongly F__law_asked_wrongly rfl, PySem.W.mg_of X G a__law_asked_wrongly, k__law_asked_wrongly, B__law_asked_wrongly⟩
  have F__law_dice := fun_mk (st := s__law_dice) l__law_dice c__law_dice k__law_dice
  have B__law_dice := F__law_dice.binds (ps := ["_law_script", "_law_spot"]) fun _ _ _ _ _ _ us hl => match us, hl with | [_, _], _ => rfl
  have D__law_dice : CalN l.prog w K mg base "_law_dice" 1 ["_law_script", "_law_spot"] (sp__law_dice K) := ⟨_, _, ok__law_dice (P := l.prog) (w := w) (base := base) T F__law_dice, PySem.W.mg_of X G a__law_dice, k__law_dice, B__law_dice⟩
  have F__law_atoms_of := fun_mk (st := s__law_atoms_of) l__law_atoms_of c__law_atoms_of k__law_atoms_of
  have B__law_atoms_of := F__law_atoms_of.binds (ps := ["_law_kind_here"]) fun _ _ _ _ _ _ us hl => match us, hl with | [_], _ => rfl
  have D__law_atoms_of : CalN l.prog w K mg base "_law_atoms_of" 32 ["_law_kind_here"] (spr__law_atoms_of 31 K) := ⟨_, _, ok__law_atoms_of (P := l.prog) (w := w) (base := base) T F__law_atoms_of (PySem.W.mg_of X G a__law_atoms_of) B__law_atoms_of 31, PySem.W.mg_of X G a__law_atoms_of, k__law_atoms_of, B__law_atoms_of⟩
  have F__law_kind := fun_mk (st := s__law_kind) l__law_kind c__law_kind k__law_kind
  have B__law_kind := F__law_kind.binds (ps := ["_law_dice_here", "_law_atoms", "_law_order", "_law_most"]) fun _ _ _ _ _ _ us hl => match us, hl with | [_, _, _, _], _ => rfl
  have D__law_kind : CalN l.prog w K mg base "_law_kind" 39 ["_law_dice_here", "_law_atoms", "_law_order", "_law_most"] (sp__law_kind K) := ⟨_, _, ok__law_kind (P := l.prog) (w := w) (base := base) T D__law_pick D__law_roll D__law_atoms_of F__law_kind (PySem.W.mg_of X G a__law_kind) B__law_kind 6, PySem.W.mg_of X G a__law_kind, k__law_kind, B__law_kind⟩
  have F__law_made_kind := fun_mk (st := s__law_made_kind) l__law_made_kind c__law_made_kind k__law_made_kind
  have B__law_made_kind := F__law_made_kind.binds (ps := ["_law_kind_here"]) fun _ _ _ _ _ _ us hl => match us, hl with | [_], _ => rfl
  have D__law_made_kind : CalN l.prog w K mg base "_law_made_kind" 12 ["_law_kind_here"] (sp__law_made_kind K C_Type) := ⟨_, _, ok__law_made_kind (P := l.prog) (w := w) (base := base) T D_Type___init__ F__law_made_kind (PySem.W.mg_of X G a__law_made_kind) B__law_made_kind 6, PySem.W.mg_of X G a__law_made_kind, k__law_made_kind, B__law_made_kind⟩
  have F_law := fun_mk (st := s_law) l_law c_law k_law
  exact ok_law7 (P := l.prog) (w := w) (base := base) T e_ref x7 D__law_dice D__law_kind D__law_made_kind D__law_roll D_Type_text D_Type_inputs D__law_text D_Type_plain D_readX D_rshX D_initX D_putX D_mw D_aw F__law_refusal (PySem.W.mg_of X G a__law_refusal) B__law_refusal TB_law inT_law just_law F_law rfl
end My

open PySem PySem.W PyProof.Rows in
set_option maxRecDepth 100000 in
set_option maxHeartbeats 0 in
theorem PySem.Challenge.cw_fromparts_k07_errors_of_kinds_holds : PySem.Challenge.rw_fromparts_k07_errors_of_kinds.Holds := by
  w_on; o_law; k_head; (case hw => w_witness2)
  k_fill
  refine My.walk_ofTG (l := PySem.Challenge.rw_fromparts_k07_errors_of_kinds) (k := 42) (x := "_law_script") (CX := fun _ => L2.CX0) rfl rfl ⟨rfl, by decide, by decide⟩ (fun w h Y => PySem.W.km_in_of Y) ?F (fun _ _ _ _ _ z => z)
  case F =>
    intro w mg fa h Y KX G hmg
    have hT8 := PySem.W.km_tabs_of Y
    refine' My.all_mk KX G hmg hT8 ?aC_Type ?pg_Type ?hd_Type ?po_Type ?sa_Type ?mk_Type ?kc_Type ?n_inputs_Type ?n_atom_Type ?n_places_Type ?n_order_Type ?n_text_Type ?fst_Type ?nfs_Type ?ni_str_Type ?tyt_Type ?od_NoneType_Type ?nf_NoneType_Type ?od_int_Type ?nf_int_Type ?od_str_Type ?nf_str_Type ?od_tuple_Type ?nf_tuple_Type ?od_list_Type ?nf_list_Type ?od_dict_Type ?nf_dict_Type ?ne_Type ?un_Type ?cl1_Type ?cl2_Type ?cl3_Type ?cl4_Type ?rd_Type ?ga_Type ?a__is_tuple_of_types ?l__is_tuple_of_types ?c__is_tuple_of_types ?k__is_tuple_of_types ?a_is_word ?l_is_word ?c_is_word ?k_is_word ?a_Type_order ?g_Type_order ?t_Type_order ?r_Type_order ?l_Type_order ?c_Type_order ?k_Type_order ?a_Type_inputs ?g_Type_inputs ?t_Type_inputs ?r_Type_inputs ?l_Type_inputs ?c_Type_inputs ?k_Type_inputs ?a_Type_text ?g_Type_text ?t_Type_text ?r_Type_text ?l_Type_text ?c_Type_text ?k_Type_text ?a__text_inside ?l__text_inside ?c__text_inside ?k__text_inside ?a_Type___init__ ?i_Type___init__ ?l_Type___init__ ?c_Type___init__ ?k_Type___init__ ?a__pieces ?l__pieces ?c__pieces ?k__pieces ?a_Type_plain ?r_Type_plain ?fi_Type_plain ?l_Type_plain ?c_Type_plain ?k_Type_plain ?a__read_freely ?l__read_freely ?c__read_freely ?k__read_freely ?a__read_piece ?l__read_piece ?c__read_piece ?k__read_piece ?a__kept ?l__kept ?c__kept ?k__kept ?a_Type_atom ?g_Type_atom ?t_Type_atom ?r_Type_atom ?l_Type_atom ?c_Type_atom ?k_Type_atom ?a_Type_atoms ?g_Type_atoms ?t_Type_atoms ?r_Type_atoms ?l_Type_atoms ?c_Type_atoms ?k_Type_atoms ?a_Type_read ?r_Type_read ?fi_Type_read ?l_Type_read ?c_Type_read ?k_Type_read ?a_is_integer ?l_is_integer ?c_is_integer ?k_is_integer ?a__is_renaming ?l__is_renaming ?c__is_renaming ?k__is_renaming ?a_Type___eq__ ?i_Type___eq__ ?l_Type___eq__ ?c_Type___eq__ ?k_Type___eq__ ?a_Type___rshift__ ?i_Type___rshift__ ?l_Type___rshift__ ?c_Type___rshift__ ?k_Type___rshift__ ?a_Type___mod__ ?i_Type___mod__ ?l_Type___mod__ ?c_Type___mod__ ?k_Type___mod__ ?a_Type_renamed ?i_Type_renamed ?l_Type_renamed ?c_Type_renamed ?k_Type_renamed ?a_Type_put ?i_Type_put ?l_Type_put ?c_Type_put ?k_Type_put ?a_Type___getitem__ ?i_Type___getitem__ ?fi_Type___getitem__ ?l_Type___getitem__ ?c_Type___getitem__ ?k_Type___getitem__ ?a__law_refusal ?l__law_refusal ?c__law_refusal ?k__law_refusal ?a__law_text ?l__law_text ?c__law_text ?k__law_text ?a__law_roll ?l__law_roll ?c__law_roll ?k__law_roll ?a__law_pick ?l__law_pick ?c__law_pick ?k__law_pick ?a__law_made_wrongly ?l__law_made_wrongly ?c__law_made_wrongly ?k__law_made_wrongly ?a__law_asked_wrongly ?l__law_asked_wrongly ?c__law_asked_wrongly ?k__law_asked_wrongly ?a__law_dice ?l__law_dice ?c__law_dice ?k__law_dice ?a__law_atoms_of ?l__law_atoms_of ?c__law_atoms_of ?k__law_atoms_of ?a__law_kind ?l__law_kind ?c__law_kind ?k__law_kind ?a__law_made_kind ?l__law_made_kind ?c__law_made_kind ?k__law_made_kind ?a_law ?l_law ?c_law ?k_law ?z_RuntimeError ?z_ValueError ?z_abs ?z_all ?z_bool ?z_classmethod ?z_dict ?z_int ?z_isinstance ?z_iter ?z_len ?z_list ?z_max ?z_min ?z_property ?z_range ?z_repr ?z_set ?z_sorted ?z_str ?z_tuple ?g_MAX_LETTERS ?g_MAX_PLACES ?g_MAX_ORDER ?g__ARROW ?ea_InvalidType ?ex_InvalidType ?ek_InvalidType ?eb_InvalidType ?et_InvalidType ?ea_InvalidWord ?ex_InvalidWord ?ek_InvalidWord ?eb_InvalidWord ?et_InvalidWord ?ea_InvalidOperation ?ex_InvalidOperation ?ek_InvalidOperation ?eb_InvalidOperation ?et_InvalidOperation ?ea_BuildError ?ex_BuildError ?ek_BuildError ?eb_BuildError ?et_BuildError ?aC_PE ?ex_iPE ?ex_oPE ?hd_PE ?sa_PE ?sb_PE ?tyt_PE ?kc_PE ?ga_PE ?gg_PE ?fl_PE ?a_PE ?i_PE ?l_PE ?c_PE ?k_PE ?rd_B ?ga_B ?ex_iniB ?ex_m1 ?ex_m2 ?aC_N ?ex_iN ?ex_oN ?hd_N ?sa_N ?sb_N ?tyt_N ?kc_N ?ga_N ?gg_N ?fl_N ?a_N ?i_N ?l_N ?c_N ?k_N ?ex_vR ?ex_mtt ?ex_mwt ?ex_mww ?ex_mot ?ex_mow ?ex_moo ?ex_mnt ?ex_mnw ?ex_mno ?ex_mnn ?ex_mpt ?ex_mpw ?ex_mpo ?ex_mpn ?ex_mpp ?sn_NoneType ?sn_int ?sn_str ?sn_list ?sn_tuple ?sn_dict ?sb_bool ?r_RShift ?i1_RShift_NoneType ?i2_RShift_NoneType ?i1_RShift_int ?i2_RShift_int ?i1_RShift_bool ?i2_RShift_bool ?i1_RShift_str ?i2_RShift_str ?i1_RShift_list ?i2_RShift_list ?i1_RShift_tuple ?i2_RShift_tuple ?i1_RShift_dict ?i2_RShift_dict ?r_Mod ?i1_Mod_NoneType ?i2_Mod_NoneType ?i1_Mod_int ?i2_Mod_int ?i1_Mod_bool ?i2_Mod_bool ?i1_Mod_str ?i2_Mod_str ?i1_Mod_list ?i2_Mod_list ?i1_Mod_tuple ?i2_Mod_tuple ?i1_Mod_dict ?i2_Mod_dict ?tk__law_made_wrongly ?tp__law_made_wrongly ?tm__law_made_wrongly ?tn__law_made_wrongly ?th__law_made_wrongly ?tk__law_asked_wrongly ?tp__law_asked_wrongly ?tm__law_asked_wrongly ?tn__law_asked_wrongly ?th__law_asked_wrongly ?tk_law ?tp_law ?tm_law ?tn_law ?th_law ?ex_pt__law_made_wrongly__law_asked_wrongly ?ex_pt__law_made_wrongly_law ?ex_pt__law_asked_wrongly_law
    (case aC_Type => k_is)
    (case pg_Type => k_is)
    (case hd_Type => k_is)
    (case po_Type => k_is)
    (case sa_Type => k_is)
    (case mk_Type => k_is)
    (case kc_Type => k_is)
    (case n_inputs_Type => k_is)
    (case n_atom_Type => k_is)
    (case n_places_Type => k_is)
    (case n_order_Type => k_is)
    (case n_text_Type => k_is)
    (case fst_Type => k_is)
    (case nfs_Type => k_is)
    (case ni_str_Type => k_is)
    (case tyt_Type => k_is)
    (case od_NoneType_Type => k_is)
    (case nf_NoneType_Type => k_is)
    (case od_int_Type => k_is)
    (case nf_int_Type => k_is)
    (case od_str_Type => k_is)
    (case nf_str_Type => k_is)
    (case od_tuple_Type => k_is)
    (case nf_tuple_Type => k_is)
    (case od_list_Type => k_is)
    (case nf_list_Type => k_is)
    (case od_dict_Type => k_is)
    (case nf_dict_Type => k_is)
    (case ne_Type => k_is)
    (case un_Type => k_is)
    (case cl1_Type => k_is)
    (case cl2_Type => k_is)
    (case cl3_Type => k_is)
    (case cl4_Type => k_is)
    (case rd_Type => k_is)
    (case ga_Type => k_is)
    (case a__is_tuple_of_types => k_is)
    (case l__is_tuple_of_types => k_is)
    (case c__is_tuple_of_types => k_is)
    (case k__is_tuple_of_types => k_is)
    (case a_is_word => k_is)
    (case l_is_word => k_is)
    (case c_is_word => k_is)
    (case k_is_word => k_is)
    (case a_Type_order => k_is)
    (case g_Type_order => k_is)
    (case t_Type_order => k_is)
    (case r_Type_order => k_is)
    (case l_Type_order => k_is)
    (case c_Type_order => k_is)
    (case k_Type_order => k_is)
    (case a_Type_inputs => k_is)
    (case g_Type_inputs => k_is)
    (case t_Type_inputs => k_is)
    (case r_Type_inputs => k_is)
    (case l_Type_inputs => k_is)
    (case c_Type_inputs => k_is)
    (case k_Type_inputs => k_is)
    (case a_Type_text => k_is)
    (case g_Type_text => k_is)
    (case t_Type_text => k_is)
    (case r_Type_text => k_is)
    (case l_Type_text => k_is)
    (case c_Type_text => k_is)
    (case k_Type_text => k_is)
    (case a__text_inside => k_is)
    (case l__text_inside => k_is)
    (case c__text_inside => k_is)
    (case k__text_inside => k_is)
    (case a_Type___init__ => k_is)
    (case i_Type___init__ => k_is)
    (case l_Type___init__ => k_is)
    (case c_Type___init__ => k_is)
    (case k_Type___init__ => k_is)
    (case a__pieces => k_is)
    (case l__pieces => k_is)
    (case c__pieces => k_is)
    (case k__pieces => k_is)
    (case a_Type_plain => k_is)
    (case r_Type_plain => k_is)
    (case fi_Type_plain => k_is)
    (case l_Type_plain => k_is)
    (case c_Type_plain => k_is)
    (case k_Type_plain => k_is)
    (case a__read_freely => k_is)
    (case l__read_freely => k_is)
    (case c__read_freely => k_is)
    (case k__read_freely => k_is)
    (case a__read_piece => k_is)
    (case l__read_piece => k_is)
    (case c__read_piece => k_is)
    (case k__read_piece => k_is)
    (case a__kept => k_is)
    (case l__kept => k_is)
    (case c__kept => k_is)
    (case k__kept => k_is)
    (case a_Type_atom => k_is)
    (case g_Type_atom => k_is)
    (case t_Type_atom => k_is)
    (case r_Type_atom => k_is)
    (case l_Type_atom => k_is)
    (case c_Type_atom => k_is)
    (case k_Type_atom => k_is)
    (case a_Type_atoms => k_is)
    (case g_Type_atoms => k_is)
    (case t_Type_atoms => k_is)
    (case r_Type_atoms => k_is)
    (case l_Type_atoms => k_is)
    (case c_Type_atoms => k_is)
    (case k_Type_atoms => k_is)
    (case a_Type_read => k_is)
    (case r_Type_read => k_is)
    (case fi_Type_read => k_is)
    (case l_Type_read => k_is)
    (case c_Type_read => k_is)
    (case k_Type_read => k_is)
    (case a_is_integer => k_is)
    (case l_is_integer => k_is)
    (case c_is_integer => k_is)
    (case k_is_integer => k_is)
    (case a__is_renaming => k_is)
    (case l__is_renaming => k_is)
    (case c__is_renaming => k_is)
    (case k__is_renaming => k_is)
    (case a_Type___eq__ => k_is)
    (case i_Type___eq__ => k_is)
    (case l_Type___eq__ => k_is)
    (case c_Type___eq__ => k_is)
    (case k_Type___eq__ => k_is)
    (case a_Type___rshift__ => k_is)
    (case i_Type___rshift__ => k_is)
    (case l_Type___rshift__ => k_is)
    (case c_Type___rshift__ => k_is)
    (case k_Type___rshift__ => k_is)
    (case a_Type___mod__ => k_is)
    (case i_Type___mod__ => k_is)
    (case l_Type___mod__ => k_is)
    (case c_Type___mod__ => k_is)
    (case k_Type___mod__ => k_is)
    (case a_Type_renamed => k_is)
    (case i_Type_renamed => k_is)
    (case l_Type_renamed => k_is)
    (case c_Type_renamed => k_is)
    (case k_Type_renamed => k_is)
    (case a_Type_put => k_is)
    (case i_Type_put => k_is)
    (case l_Type_put => k_is)
    (case c_Type_put => k_is)
    (case k_Type_put => k_is)
    (case a_Type___getitem__ => k_is)
    (case i_Type___getitem__ => k_is)
    (case fi_Type___getitem__ => k_is)
    (case l_Type___getitem__ => k_is)
    (case c_Type___getitem__ => k_is)
    (case k_Type___getitem__ => k_is)
    (case a__law_refusal => k_is)
    (case l__law_refusal => k_is)
    (case c__law_refusal => k_is)
    (case k__law_refusal => k_is)
    (case a__law_text => k_is)
    (case l__law_text => k_is)
    (case c__law_text => k_is)
    (case k__law_text => k_is)
    (case a__law_roll => k_is)
    (case l__law_roll => k_is)
    (case c__law_roll => k_is)
    (case k__law_roll => k_is)
    (case a__law_pick => k_is)
    (case l__law_pick => k_is)
    (case c__law_pick => k_is)
    (case k__law_pick => k_is)
    (case a__law_made_wrongly => k_is)
    (case l__law_made_wrongly => k_is)
    (case c__law_made_wrongly => k_is)
    (case k__law_made_wrongly => k_is)
    (case a__law_asked_wrongly => k_is)
    (case l__law_asked_wrongly => k_is)
    (case c__law_asked_wrongly => k_is)
    (case k__law_asked_wrongly => k_is)
    (case a__law_dice => k_is)
    (case l__law_dice => k_is)
    (case c__law_dice => k_is)
    (case k__law_dice => k_is)
    (case a__law_atoms_of => k_is)
    (case l__law_atoms_of => k_is)
    (case c__law_atoms_of => k_is)
    (case k__law_atoms_of => k_is)
    (case a__law_kind => k_is)
    (case l__law_kind => k_is)
    (case c__law_kind => k_is)
    (case k__law_kind => k_is)
    (case a__law_made_kind => k_is)
    (case l__law_made_kind => k_is)
    (case c__law_made_kind => k_is)
    (case k__law_made_kind => k_is)
    (case a_law => k_is)
    (case l_law => k_is)
    (case c_law => k_is)
    (case k_law => k_is)
    (case z_RuntimeError => k_is)
    (case z_ValueError => k_is)
    (case z_abs => k_is)
    (case z_all => k_is)
    (case z_bool => k_is)
    (case z_classmethod => k_is)
    (case z_dict => k_is)
    (case z_int => k_is)
    (case z_isinstance => k_is)
    (case z_iter => k_is)
    (case z_len => k_is)
    (case z_list => k_is)
    (case z_max => k_is)
    (case z_min => k_is)
    (case z_property => k_is)
    (case z_range => k_is)
    (case z_repr => k_is)
    (case z_set => k_is)
    (case z_sorted => k_is)
    (case z_str => k_is)
    (case z_tuple => k_is)
    (case g_MAX_LETTERS => k_is)
    (case g_MAX_PLACES => k_is)
    (case g_MAX_ORDER => k_is)
    (case g__ARROW => k_is)
    (case ea_InvalidType => k_is)
    (case ex_InvalidType => kernel_rfl)
    (case ek_InvalidType => k_is)
    (case eb_InvalidType => k_is)
    (case et_InvalidType => k_is)
    (case ea_InvalidWord => k_is)
    (case ex_InvalidWord => kernel_rfl)
    (case ek_InvalidWord => k_is)
    (case eb_InvalidWord => k_is)
    (case et_InvalidWord => k_is)
    (case ea_InvalidOperation => k_is)
    (case ex_InvalidOperation => kernel_rfl)
    (case ek_InvalidOperation => k_is)
    (case eb_InvalidOperation => k_is)
    (case et_InvalidOperation => k_is)
    (case ea_BuildError => k_is)
    (case ex_BuildError => kernel_rfl)
    (case ek_BuildError => k_is)
    (case eb_BuildError => k_is)
    (case et_BuildError => k_is)
    (case aC_PE => k_is)
    (case ex_iPE => kernel_rfl)
    (case ex_oPE => kernel_rfl)
    (case hd_PE => k_is)
    (case sa_PE => k_is)
    (case sb_PE => k_is)
    (case tyt_PE => k_is)
    (case kc_PE => k_is)
    (case ga_PE => k_is)
    (case gg_PE => k_is)
    (case fl_PE => k_is)
    (case a_PE => k_is)
    (case i_PE => k_is)
    (case l_PE => k_is)
    (case c_PE => k_is)
    (case k_PE => k_is)
    (case rd_B => k_is)
    (case ga_B => k_is)
    (case ex_iniB => kernel_rfl)
    (case ex_m1 => kernel_rfl)
    (case ex_m2 => kernel_rfl)
    (case aC_N => k_is)
    (case ex_iN => kernel_rfl)
    (case ex_oN => kernel_rfl)
    (case hd_N => k_is)
    (case sa_N => k_is)
    (case sb_N => k_is)
    (case tyt_N => k_is)
    (case kc_N => k_is)
    (case ga_N => k_is)
    (case gg_N => k_is)
    (case fl_N => k_is)
    (case a_N => k_is)
    (case i_N => k_is)
    (case l_N => k_is)
    (case c_N => k_is)
    (case k_N => k_is)
    (case ex_vR => kernel_rfl)
    (case ex_mtt => kernel_rfl)
    (case ex_mwt => kernel_rfl)
    (case ex_mww => kernel_rfl)
    (case ex_mot => kernel_rfl)
    (case ex_mow => kernel_rfl)
    (case ex_moo => kernel_rfl)
    (case ex_mnt => kernel_rfl)
    (case ex_mnw => kernel_rfl)
    (case ex_mno => kernel_rfl)
    (case ex_mnn => kernel_rfl)
    (case ex_mpt => kernel_rfl)
    (case ex_mpw => kernel_rfl)
    (case ex_mpo => kernel_rfl)
    (case ex_mpn => kernel_rfl)
    (case ex_mpp => kernel_rfl)
    (case sn_NoneType => k_is)
    (case sn_int => k_is)
    (case sn_str => k_is)
    (case sn_list => k_is)
    (case sn_tuple => k_is)
    (case sn_dict => k_is)
    (case sb_bool => k_is)
    (case r_RShift => k_is)
    (case i1_RShift_NoneType => k_is)
    (case i2_RShift_NoneType => k_is)
    (case i1_RShift_int => k_is)
    (case i2_RShift_int => k_is)
    (case i1_RShift_bool => k_is)
    (case i2_RShift_bool => k_is)
    (case i1_RShift_str => k_is)
    (case i2_RShift_str => k_is)
    (case i1_RShift_list => k_is)
    (case i2_RShift_list => k_is)
    (case i1_RShift_tuple => k_is)
    (case i2_RShift_tuple => k_is)
    (case i1_RShift_dict => k_is)
    (case i2_RShift_dict => k_is)
    (case r_Mod => k_is)
    (case i1_Mod_NoneType => k_is)
    (case i2_Mod_NoneType => k_is)
    (case i1_Mod_int => k_is)
    (case i2_Mod_int => k_is)
    (case i1_Mod_bool => k_is)
    (case i2_Mod_bool => k_is)
    (case i1_Mod_str => k_is)
    (case i2_Mod_str => k_is)
    (case i1_Mod_list => k_is)
    (case i2_Mod_list => k_is)
    (case i1_Mod_tuple => k_is)
    (case i2_Mod_tuple => k_is)
    (case i1_Mod_dict => k_is)
    (case i2_Mod_dict => k_is)
    (case tk__law_made_wrongly => k_is)
    (case tp__law_made_wrongly => rfl)
    (case tm__law_made_wrongly => decide)
    (case tn__law_made_wrongly => kernel_rfl)
    (case th__law_made_wrongly => kernel_rfl)
    (case tk__law_asked_wrongly => k_is)
    (case tp__law_asked_wrongly => rfl)
    (case tm__law_asked_wrongly => decide)
    (case tn__law_asked_wrongly => kernel_rfl)
    (case th__law_asked_wrongly => kernel_rfl)
    (case tk_law => k_is)
    (case tp_law => rfl)
    (case tm_law => decide)
    (case tn_law => kernel_rfl)
    (case th_law => kernel_rfl)
    (case ex_pt__law_made_wrongly__law_asked_wrongly => kernel_rfl)
    (case ex_pt__law_made_wrongly_law => kernel_rfl)
    (case ex_pt__law_asked_wrongly_law => kernel_rfl)
