import PyProof.Rows.All
import Wide.All
import OpenK.AllK
import Wide.FinOn
import HandS.ForMost
import HandS.IsInst
import HandS.Steps
import HandS.Property
import HandS.ClsMeth
import HandS.FStr
import PyProof.ListStr
import PyProof.CallFns
import PyProof.Rows.RuleB_pow
import KE.KOpsOwn
import OpenK.KMeth
import HandS.RaiseMore
import KE.KCallOwn
import HandS.SetFor
import KE.DatumOrd
import KE.DatumMoreOrd
import PyProof.RowDictHeap
import PyProof.ReprRoads
import HandS.Dict
import PyProof.ExcBaseAll.ValueError
import PyProof.ExcBaseAll.LookupError
import PyProof.ExcBaseAll.IndexError
import PyProof.ExcBaseAll.OverflowError
import PyProof.ExcBaseAll.ArithmeticError
import PyProof.ExcBaseAll.RuntimeError
import KE.KExcInit
import KE.KExcMore
import KE.KExcIs
import HandS.ExcInit
import HandS.ExcField
import HandS.ExcIs
import HandS.ExcValue
import HandS.Style
import HandS.DictComp
import HandS.Iter
import PyProof.StrLaws
import HandS.Conv
import HandS.More
import HandS.ListItems
import PySem.Challenge.RW_fromparts_k00_errors_and_what_they_keep
set_option Elab.async false
set_option linter.all false
set_option maxRecDepth 100000
set_option maxHeartbeats 2000000
namespace My
open PySem PySem.Spec PyProof.Rows L2 TL
/-! ### defs called where no repr is under way: what A.guards says is handed down -/
structure FnOkG (P : Program) (w : World) (K : PySem.W.Frag) (mg : Str → Option Value) (base : Heap) (CX : CXT) (k : Nat) (f : Addr) (fd : FuncData) (ps : List Str) (sp : Sp) : Prop where
  arity : ∀ vs H Q E, sp vs H Q E → vs.length = ps.length
  go : ∀ (B : Around) (fr : List Env) (t : Shared) (H : Hp) (ar : Args) (us : List Value) (vs : List V) (Q : VK) (E : XK), Room k B → B.guards = some [] → Env0 P w K mg base B fr t H → BindsTo t fd ar (ps.zip us) → Vals vs us → sp vs H Q E →
    codeAny (model P w) B (.call (.ref f) ar) (CR CX fr P w H t Q E) t
theorem FnOkG.lift {P : Program} {w : World} {K : PySem.W.Frag} {mg : Str → Option Value} {base : Heap} {CX : CXT} {k : Nat} {f : Addr} {fd : FuncData} {ps : List Str} {sp : Sp}
    (F : FnOk P w K mg base CX k f fd ps sp) : FnOkG P w K mg base CX k f fd ps sp := ⟨F.len, fun B fr t H ar us vs Q E hr _ => F.run B fr t H ar us vs Q E hr⟩
section
variable {P : Program} {w : World} {K : PySem.W.Frag} {mg : Str → Option Value} {base : Heap}
theorem _root_.L2.Fun.okG {CX : CXT} {x qual : Str} {st : Stmt} {f : Addr} {fd : FuncData} {N ps : List Str} {k : Nat} {sp : Sp} (F : Fun K x qual st f fd) (S : FnScope N ps (defScope st)) (ar : ∀ vs H Q E, sp vs H Q E → vs.length = ps.length)
    (body : ∀ (cv : Value) (B : Around) (fr : List Env) (t : Shared) (H : Hp) (vs : List V) (Q : VK) (E : XK), Room k (B.deeper (envOfC qual (defScope st) t.heap.objs.size f cv)) → (B.deeper (envOfC qual (defScope st) t.heap.objs.size f cv)).guards = some [] → sp vs H Q E →
      ∃ r, PSs (cxOf CX P w K mg base N qual (defScope st) f cv B fr t H E).nox (defBody st) r ∧ r { nx := fun _ H' => Q .non H', rt := Q } (start N vs) H) : FnOkG P w K mg base CX (k + 1) f fd ps sp := by
  obtain ⟨oc, od, kV, doc, pm, an, cv, ct, osl, rfl, found, isCode⟩ := F.ex
  refine ⟨ar, fun B fr t H args us vs Q E room still env binds vals wish => ?_⟩
  have there : K.In t.heap := env.mod.kin.keeps (fun b o e => (env.bs b o e).1)
  have noLim : t.heap.NoLimit := env.mod.nolimit.keeps (fun b o e => (env.bs b o e).1)
  have kinds : ∀ y ∈ ps.zip us, (defScope st).names.lookup y.1 = some .local ∨ ((defScope st).names.lookup y.1 = some .cell ∧ ((cellsFrom (t.heap.objs.size + 1) (defScope st).names []).lookup y.1).isSome = true) := by
    rintro ⟨n, v⟩ hy
    exact (S.par n (List.of_mem_zip hy).1).imp id fun q => ⟨q, PySem.W.cellsFrom_some _ _ _ (.inl q)⟩
  refine codeAny_call_function room.depth (there _ _ found)
    rfl S.co S.gen rfl (PySem.W.codeRec_of there isCode) (binds _ _ _ _
      (wpAny_newFunctionEnv_cells S.kind kinds fun env' eq t1 start1 => ?_))
  subst eq
  refine ⟨noLim.keeps start1.toInCall.keep, codeAny_func ?_⟩
  obtain ⟨r, runs, ends⟩ := body cv B fr t H vs Q E (room.deeper _) still wish
  refine wpAny_mono (runs.nox.run [] t1 (start N vs) H _ (inv_start S room.hd env (ar _ _ _ _ wish) vals start1) ends) ?_ fun _ _ z => z
  intro fl t2 got
  cases fl with
  | ret u =>
    obtain ⟨v, σ', H', J, rv, q⟩ := got
    exact ⟨v, H', J.os, J.bare, J.base, J.hok, rv, q⟩
  | next =>
    obtain ⟨σ', H', J, q⟩ := got
    exact ⟨V.non, H', J.os, J.bare, J.base, J.hok, rfl, q⟩
  | brk => exact got.choose_spec.choose_spec.2.elim
  | cont => exact got.choose_spec.choose_spec.2.elim
end
/-! ### defs by their promises -/
structure Cal (P : Program) (w : World) (K : PySem.W.Frag) (mg : Str → Option Value) (base : Heap) (x : Str) (k : Nat) (ps : List Str) (sp : Sp) : Prop where
  ex : ∃ f fd, FnOkG P w K mg base CX0 k f fd ps sp ∧ mg x = some (.ref f) ∧ PySem.W.keepIn K (.ref f) = true ∧ Binds K fd ps []
theorem Cal.of {P : Program} {w : World} {K : PySem.W.Frag} {mg : Str → Option Value} {base : Heap} {x q : Str} {k : Nat} {ps : List Str} {sp : Sp} {st : Stmt} {f : Addr} {fd : FuncData}
    (F : Fun K x q st f fd) (hm : mg x = some (.ref f)) (hb : Binds K fd ps []) (ok : FnOkG P w K mg base CX0 k f fd ps sp) : Cal P w K mg base x k ps sp := ⟨f, fd, ok, hm, F.kp, hb⟩
section
variable {X : Cx} {k : Nat} {f : Addr} {fd : FuncData} {ps : List Str} {sp : Sp} {ds : List Value} {dvs : List V} {E : XK} {CX : CXT}
/-- the callee runs, no repr under way -/
theorem run_fnG {pins : List (Addr × Obj)} {σ : L2.St} {H : Hp} {s : Shared} {Q : VK} {us : List Value} {vs : List V} (F : FnOkG X.prog X.w X.K X.mg X.base CX k f fd ps sp) (room : Room k X.A) (still : X.A.guards = some [])
    (binds : Binds X.K fd ps ds) (dv : Vals dvs ds) (pass : Passes CX X E) (I : Inv X pins σ H s) (rel : Vals vs us) (wish : sp (vs ++ dvs) H Q E) : wpAny (model X.prog X.w) X.A (call (.ref f) us) (EP X pins σ Q) X.xe s := by
  have both := rel.append dv
  have len : (us ++ ds).length = ps.length := both.length.symm.trans (F.arity _ _ _ _ wish)
  have ran := F.go X.A X.stack s H ⟨us, []⟩ (us ++ ds) (vs ++ dvs) Q E room still I.env0 (binds s us I.kIn len) both wish
  refine wpAny_call (codeAny_mono ran ?_)
  intro r s' h
  match r, h with
  | .error e, h => exact pass pins σ H s e s' I h
  | .ok (.ret u), h => exact I.after h
  | .ok .next, h => exact False.elim h
  | .ok .brk, h => exact False.elim h
  | .ok .cont, h => exact False.elim h
end
section
variable {X : Cx} {x : Str} {k : Nat} {ps : List Str} {sp : Sp} {e : Expr} {es : List Expr} {t : TA} {p pos : Pos}
theorem pe_callC (C : Cal X.prog X.w X.K X.mg X.base x k ps sp) (room : Room k X.A) (still : X.A.guards = some []) (hg : Gl X x) (ha : PA X (e :: es) t) (hdb : (x == ("__debug__" : Str)) = false := by decide)
    (he : starEach (e :: es) X.env = (false, eval e X.env) :: starEach es X.env := by rfl) (hpl : (backTo pos (starEach es X.env)).any (·.1) = false := by rfl) :
    PE X (.Call (.Name x p) (e :: es) [] pos) (tCall sp [] E0 t) := by
  obtain ⟨f, fd, ok, hm, kp, hb⟩ := C.ex
  refine ⟨fun pins s σ H Q I h => wpAny_Call_Name_kw (ld_glob I hg hm ?_ hdb)⟩
  have args := thn (ha.run pos pins s σ H _ I h) (Q' := fun us s1 => X.K.In s1.heap ∧ wpAny (model X.prog X.w) X.A (call (.ref f) us) (EP X pins σ Q) X.xe s1) fun us s1 ⟨vs, H1, I1, r, q⟩ =>
    ⟨I1.kIn, run_fnG ok room still hb .nil pass0 I1 r q⟩
  exact PySem.W.callWith_K (h₀ := X.base) I.ok.mod.kin kp args he hpl
theorem pe_globE {x : Str} {v : V} (hg : Gl X x) (h : ∃ u, X.mg x = some u ∧ RelV v u) (hd : (x == ("__debug__" : Str)) = false := by decide) : PE X (.Name x pos) (tC v) := by
  obtain ⟨u, hm, r⟩ := h
  exact pe_glob hg hm r hd
theorem op_powW : OpR X (binaryOp .Pow) (rI (fun i j => 0 ≤ j ∧ (Builtin.Int.intBits i : Int) * j ≤ 2 ^ 27) fun i j => .int (i ^ j.toNat)) := opI fun _ _ _ _ _ _ _ hc q => PyProof.Rows.pow_int hc.1 hc.2 q
theorem call_repr_bl : CallR X (.builtin "repr") (fun xs H Q => ∃ b, xs = [.bl b] ∧ Q (.str (if b then "True" else "False")) H) := by
  intro pins s σ H xs us Q I r h
  obtain ⟨b, rfl, q⟩ := h
  obtain ⟨u, rfl, r1⟩ := vals1 r
  cases r1
  exact PySem.P.repr_of_bool ⟨.str _, H, I.tok _, ⟨_, rfl⟩, q⟩
def sgnV (x : Str) : List V := x.cps.toList.map fun c => V.str ⟨#[c]⟩
theorem vals_signs : ∀ (l : List Nat) (ys : List Value), ys.length = l.length → (∀ (j : Nat) (v : Value), ys[j]? = some v → ∃ c u, l[j]? = some c ∧ v = .str ⟨#[c]⟩ u) → Vals (l.map fun c => V.str ⟨#[c]⟩) ys
  | [], [], _, _ => .nil
  | [], _ :: _, h, _ => by simp at h
  | _ :: _, [], h, _ => by simp at h
  | c :: l, y :: ys, h, f => by
    obtain ⟨c', u, e1, e2⟩ := f 0 y rfl
    have e3 : c = c' := Option.some.inj e1
    subst e3
    exact .cons ⟨u, e2⟩ (vals_signs l ys (by simpa using h) fun j v e => f (j + 1) v e)
theorem call_list_text (hc : X.calm = true) : CallR X (.type "list") (fun xs H Q => ∃ x : Str, xs = [.str x] ∧ x.length ≤ sizeLine ∧ ∀ l, H l = none → Q (.ref l) (upd H l (.lst (sgnV x)))) := by
  intro pins s σ H xs us Q I r h
  obtain ⟨x, rfl, hz, q⟩ := h
  obtain ⟨u, rfl, t, rfl⟩ := vals1 r
  refine call_list_str (hn := hz) (I.ok.hd hc) x t fun h' tk acc' c' hk hS' hacc => ?_
  have hv : Vals (sgnV x) acc'.toList := vals_signs _ _ (by simp [hacc.1]) fun j v e => by
    obtain ⟨c, u, h1, h2⟩ := hacc.2 j v (by simpa using e)
    exact ⟨c, u, by simpa using h1, h2⟩
  exact ⟨.ref s.heap.objs.size, _, I.laid (t' := tk) hk (Nat.le_refl _) (show ObjOk X.prog X.w _ h' _ (.lst (sgnV x)) from ⟨by simp [sgnV]; exact hz, acc'.toList, c', hv, by simpa using hS'⟩), rfl, q _ (I.hok.fresh (Nat.le_refl _))⟩
end
/-! ### heaps: all stands but the dice -/
def Ext (d : Addr) (H H' : Hp) : Prop := ∀ a o, a ≠ d → H a = some o → H' a = some o
theorem Ext.refl {d : Addr} (H : Hp) : Ext d H H := fun _ _ _ h => h
theorem Ext.trans {d : Addr} {H H1 H2 : Hp} (a : Ext d H H1) (b : Ext d H1 H2) : Ext d H H2 := fun x o n h => b x o n (a x o n h)
theorem Ext.new {d : Addr} {H H1 : Hp} (a : Ext d H H1) {p : Addr} {o : HO} (h : H1 p = none) : Ext d H (upd H1 p o) := fun x u n e => by
  rw [upd_ne (ne_of_none (a x u n e) h)]
  exact a x u n e
theorem Ext.same {d : Addr} {H H' : Hp} (h : Same H H') : Ext d H H' := fun a o _ e => h a o e
theorem Ext.set {d : Addr} {H : Hp} {o : HO} : Ext d H (upd H d o) := fun a u n e => by
  rw [upd_ne n]
  exact e
theorem Ext.mut {d : Addr} {H H1 : Hp} (a : Ext d H H1) {p : Addr} {o : HO} (h : H p = none) : Ext d H (upd H1 p o) := fun x u n e => by
  rw [upd_ne (ne_of_none e h)]
  exact a x u n e
theorem Ext.none {d : Addr} {H H' : Hp} (e : Ext d H H') {l : Addr} (n : l ≠ d) (h : H' l = Option.none) : H l = Option.none := by
  cases q : H l with
  | none => rfl
  | some o =>
    rw [e l o n q] at h
    cases h
theorem _root_.L2.Same.new {H H1 : Hp} (a : Same H H1) {p : Addr} {o : HO} (h : H1 p = none) : Same H (upd H1 p o) := fun x u e => by
  rw [upd_ne (ne_of_none (a x u e) h)]
  exact a x u e
theorem _root_.L2.Same.mut {H H1 : Hp} (a : Same H H1) {p : Addr} {o : HO} (h : H p = none) : Same H (upd H1 p o) := fun x u e => by
  rw [upd_ne (ne_of_none e h)]
  exact a x u e
def IsDice (H : Hp) (d : Addr) : Prop := ∃ a b c : Int, H d = some (.lst [.int a, .int b, .int c])
theorem IsDice.some {H : Hp} {d : Addr} (h : IsDice H d) : ∃ o, H d = Option.some o := ⟨_, h.choose_spec.choose_spec.choose_spec⟩
theorem IsDice.ne {H : Hp} {d l : Addr} (h : IsDice H d) (n : H l = none) : l ≠ d := by
  obtain ⟨o, e⟩ := h.some
  exact fun z => by
    rw [z, e] at n
    cases n
theorem IsDice.new {H : Hp} {d p : Addr} {o : HO} (h : IsDice H d) (n : H p = none) : IsDice (upd H p o) d := by
  have hn := h.ne n
  obtain ⟨a, b, c, e⟩ := h
  exact ⟨a, b, c, by rw [upd_ne hn.symm]; exact e⟩
theorem IsDice.mut {H : Hp} {d p : Addr} {o : HO} (h : IsDice H d) (n : p ≠ d) : IsDice (upd H p o) d := by
  obtain ⟨a, b, c, e⟩ := h
  exact ⟨a, b, c, by rw [upd_ne n.symm]; exact e⟩
theorem IsDice.same {H H' : Hp} {d : Addr} (h : IsDice H d) (s : Same H H') : IsDice H' d := by
  obtain ⟨a, b, c, e⟩ := h
  exact ⟨a, b, c, s _ _ e⟩
/-- where lists stand -/
theorem sql_ext {K : PySem.W.Frag} {H H' : Hp} {d a : Addr} {xs : List V} (e : Ext d H H') (n : a ≠ d) (h : SqL K H a xs) : SqL K H' a xs := by
  rcases h with (h | ⟨o, h⟩) | h
  · exact .inl (.inl (e _ _ n h))
  · exact .inl (.inr ⟨o, e _ _ n h⟩)
  · exact .inr h
theorem lt_line {n : Nat} (h : n ≤ 1000000) : n ≤ sizeLine := Nat.le_trans h (by decide)
theorem lt_line' {n : Nat} (h : n < 1000000) : n < sizeLine := Nat.lt_of_lt_of_le h (by decide)
/-! ### the dice's promises -/
/-- a new dice; the list of the script, an index -/
def sp__law_dice (K : PySem.W.Frag) : Sp := fun vs H Q _ => ∃ (a : Addr) (ns : List Int) (i : Int), vs = [.ref a, .int i] ∧ SqL K H a (ns.map V.int) ∧ 0 ≤ i ∧ i < 64 ∧
  ∀ d o, H d = none → IsDice (upd H d o) d → Q (.ref d) (upd H d o)
def sp__law_roll (_ : PySem.W.Frag) : Sp := fun vs H Q _ => ∃ (d : Addr) (n : Int), vs = [.ref d, .int n] ∧ IsDice H d ∧ 0 < n ∧ n < 1073741824 ∧
  ∀ r H', 0 ≤ r → r < n → Ext d H H' → IsDice H' d → Q (.int r) H'
def sp__law_pick (K : PySem.W.Frag) : Sp := fun vs H Q _ => ∃ (d l : Addr) (xs : List V), vs = [.ref d, .ref l] ∧ IsDice H d ∧ SqL K H l xs ∧ l ≠ d ∧ xs ≠ [] ∧ xs.length < 1000000 ∧
  ∀ x H', x ∈ xs → Ext d H H' → IsDice H' d → Q x H'
def sp__law_some (K : PySem.W.Frag) : Sp := fun vs H Q _ => ∃ (d l : Addr) (xs : List V) (n : Int), vs = [.ref d, .ref l, .int n] ∧ IsDice H d ∧ SqL K H l xs ∧ l ≠ d ∧ xs.length < 1000000 ∧ 0 ≤ n ∧
  ∀ p ys H', (∀ y ∈ ys, y ∈ xs) → ys.length ≤ xs.length → H p = none → p ≠ d → H' p = some (.lst ys) → Ext d H H' → IsDice H' d → Q (.ref p) H'
/-! ### a comprehension over a text -/
theorem lc_txt {x : Str} {g : TG} {tt : TT} {te : TE} {vs : List Nat} {σ : L2.St} {H1 : Hp} {D : Addr} {Qd : Hp → Prop} (Pv : Nat → Hp → Prop) (h0 : Pv 0 (upd H1 D (.lst [])))
    (hs : ∀ i c H, x.cps.toList[i]? = some c → Pv i H → g (.str ⟨#[c]⟩) (wipe σ vs) H fun σ2 H2 => wipe σ2 vs = wipe σ vs ∧ tt σ2 H2 fun b H3 =>
      if b = true then te σ2 H3 fun y H4 => ∃ acc, H4 D = some (.lst acc) ∧ acc.length < sizeLine ∧ Pv (i + 1) (upd H4 D (.lst (acc ++ [y]))) else Pv (i + 1) H3) (hd : ∀ H, Pv x.cps.toList.length H → Qd H) :
    ∃ W : Nat → Nat → Hp → Prop, (∃ m, W 0 m (upd H1 D (.lst []))) ∧ ∀ i m H, W i m H →
      ((Its x).stop i H ∧ Qd H) ∨ ((Its x).go i H ∧ ∃ Nx : Hp → Prop, (∀ H', Nx H' → ∃ m', m' < m ∧ W (i + 1) m' H') ∧ ∀ v H', (Its x).yld i H v H' → g v (wipe σ vs) H' fun σ2 H2 => wipe σ2 vs = wipe σ vs ∧ tt σ2 H2 fun b H3 =>
        if b = true then te σ2 H3 fun y H4 => ∃ acc, H4 D = some (.lst acc) ∧ acc.length < sizeLine ∧ Nx (upd H4 D (.lst (acc ++ [y]))) else Nx H3) := by
  refine ⟨fun i m H => m = x.cps.size - i ∧ i ≤ x.cps.size ∧ Pv i H, ⟨x.cps.size, by simp, Nat.zero_le _, h0⟩, ?_⟩
  rintro i m H ⟨rfl, hi, p⟩
  by_cases hlt : i < x.cps.size
  · refine .inr ⟨hlt, Pv (i + 1), fun H' p' => ⟨x.cps.size - (i + 1), by omega, rfl, hlt, p'⟩, fun v H' y => ?_⟩
    obtain ⟨e, c, ec, ev⟩ := y
    subst e ev
    exact hs i c _ (by simpa using ec) p
  · have e : i = x.cps.size := by omega
    exact .inl ⟨by show x.cps.size ≤ i; omega, hd H (by rw [e] at p; simpa using p)⟩
/-- flat data -/
theorem shaped_flat {ds : List PyData} (h : ∀ d ∈ ds, d.canLay0 = true ∧ d.depth = 0) : SeqAt.shaped (.list ds) = true ∧ SeqAt.shaped (.tuple ds) = true := by
  have a : ∀ ds : List PyData, (∀ d ∈ ds, d.canLay0 = true ∧ d.depth = 0) → PyData.canLayAll0 ds = true ∧ PyData.depthAll ds = 0 := by
    intro ds
    induction ds with
    | nil => intro _; exact ⟨rfl, rfl⟩
    | cons d r ih =>
      intro h
      have h1 := h d (List.mem_cons_self ..)
      have h2 := ih fun x hx => h x (List.mem_cons_of_mem _ hx)
      exact ⟨by rw [PyData.canLayAll0, h1.1, h2.1]; rfl, by rw [PyData.depthAll, h1.2, h2.2]; rfl⟩
  obtain ⟨a1, a2⟩ := a ds h
  constructor <;> (unfold SeqAt.shaped; rw [PyData.canLay0, PyData.depth, a1, a2]; rfl)
theorem strOk_ascii {x : Str} (h : ∀ c ∈ x.cps.toList, c < 128) : PyData.strOk x = true := by
  unfold PyData.strOk
  rw [← Array.all_toList]
  exact List.all_eq_true.mpr fun c hc => by
    have := h c hc
    simp
    omega
/-! ### comprehensions whose parts speak of the place where they stand -/
section
variable {X : Cx}
abbrev Dep (α : Type) := Shared → Hp → Addr → List (Str × Addr) → List Addr → α
abbrev Dep.at {α : Type} (t : Dep α) (X : Cx) : α := t X.s_0 X.H_0 0 [] []
theorem pe_lcD {elt tg iter : Expr} {ifs : List Expr} {scope : Scope} {own : List (Str × Nat)} {pos : Pos} {wi : TI} {g : Dep TG} {tt : Dep TT} {te : Dep TE} (hc : X.calm = true) (hN : X.N.Nodup) (hi : PI X tg iter wi) (ok : BlkOk X.N X.env.scope scope own)
    (hg : ∀ (s : Shared) (H : Hp) (C : Addr) (cl : List (Str × Addr)) (fp : List Addr), PG (X.blk s H scope (compEnvC scope cl C X.env) fp) tg (g s H C cl fp)) (ht : ∀ (s : Shared) (H : Hp) (C : Addr) (cl : List (Str × Addr)) (fp : List Addr), PTs (X.blk s H scope (compEnvC scope cl C X.env) fp) ifs (tt s H C cl fp))
    (he : ∀ (s : Shared) (H : Hp) (C : Addr) (cl : List (Str × Addr)) (fp : List Addr), PE (X.blk s H scope (compEnvC scope cl C X.env) fp) elt (te s H C cl fp)) (hs : ∀ x, foldedSetIterable iter X.env x = pure x := by intro _; rfl)
    (eg : ∀ s H C cl fp, g s H C cl fp = g.at X := by intros; rfl) (et : ∀ s H C cl fp, tt s H C cl fp = tt.at X := by intros; rfl) (ee : ∀ s H C cl fp, te s H C cl fp = te.at X := by intros; rfl) :
    PE X (.ListComp elt [⟨tg, iter, ifs, 0⟩] scope pos) (tLc wi (g.at X) (tt.at X) (te.at X) (own.map (·.2))) :=
  pe_lc hc hN hi ok (fun s H C cl fp => eg s H C cl fp ▸ hg s H C cl fp) (fun s H C cl fp => et s H C cl fp ▸ ht s H C cl fp) (fun s H C cl fp => ee s H C cl fp ▸ he s H C cl fp) hs
theorem ps_setLcD {i : Nat} {y : Str} {py : Pos} {elt tg iter : Expr} {ifs : List Expr} {scope : Scope} {own : List (Str × Nat)} {pos spos : Pos} {wi : TI} {g : Dep TG} {tt : Dep TT} {te : Dep TE} (hc : X.calm = true) (hN : X.N.Nodup) (hy : X.N[i]? = some y) (hyl : X.env.scope.names.lookup y = some .local)
    (hsw : swapsWith (.ListComp elt [⟨tg, iter, ifs, 0⟩] scope pos) (some (.Name y py)) spos.line X.env = pure true) (hi : PI X tg iter wi) (ok : BlkOk X.N X.env.scope scope own)
    (hg : ∀ (s : Shared) (H : Hp) (C : Addr) (cl : List (Str × Addr)) (fp : List Addr), PG (X.blk s H scope (compEnvC scope cl C X.env) fp) tg (g s H C cl fp)) (ht : ∀ (s : Shared) (H : Hp) (C : Addr) (cl : List (Str × Addr)) (fp : List Addr), PTs (X.blk s H scope (compEnvC scope cl C X.env) fp) ifs (tt s H C cl fp))
    (he : ∀ (s : Shared) (H : Hp) (C : Addr) (cl : List (Str × Addr)) (fp : List Addr), PE (X.blk s H scope (compEnvC scope cl C X.env) fp) elt (te s H C cl fp)) (hs : ∀ x, foldedSetIterable iter X.env x = pure x := by intro _; rfl)
    (eg : ∀ s H C cl fp, g s H C cl fp = g.at X := by intros; rfl) (et : ∀ s H C cl fp, tt s H C cl fp = tt.at X := by intros; rfl) (ee : ∀ s H C cl fp, te s H C cl fp = te.at X := by intros; rfl) :
    PS X (.Assign [.Name y py] (.ListComp elt [⟨tg, iter, ifs, 0⟩] scope pos) spos) (tAsg (tLc wi (g.at X) (tt.at X) (te.at X) (own.map (·.2))) (gName i)) :=
  ps_setLc hc hN hy hyl hsw hi ok (fun s H C cl fp => eg s H C cl fp ▸ hg s H C cl fp) (fun s H C cl fp => et s H C cl fp ▸ ht s H C cl fp) (fun s H C cl fp => ee s H C cl fp ▸ he s H C cl fp) hs
end
theorem tyes {σ : L2.St} {H : Hp} {A B : Hp → Prop} (h : A H) : tYes σ H (fun b H3 => if b = true then A H3 else B H3) := by
  show (if true = true then A H else B H)
  exact iteT h
/-- the law -/
def sp_law (K : PySem.W.Frag) : Sp := fun vs H Q _ => ∃ (a : Addr) (ns : List Int), vs = [.ref a] ∧ SqL K H a (ns.map V.int) ∧ ns.length ≤ 63 ∧ ∀ H', Q (.bl true) H'
theorem same_ext {H H1 H2 : Hp} {d : Addr} (s : Same H H1) (n : H d = none) (e : Ext d H1 H2) : Same H H2 := fun a o h => e a o (ne_of_none h n) (s a o h)
/-- how many cells the law looks at -/
theorem cells_ok {n : Nat} (h : n ≤ 63) : ∀ j : Int, j = (if (if (n : Int) < 8 then (n : Int) else 8) > 1 then (if (n : Int) < 8 then (n : Int) else 8) else 1) → 1 ≤ j ∧ j ≤ 8 := by
  intro j e
  by_cases h1 : (n : Int) < 8
  · rw [if_pos h1] at e
    by_cases h2 : (n : Int) > 1
    · rw [if_pos h2] at e
      omega
    · rw [if_neg h2] at e
      omega
  · rw [if_neg h1] at e
    rw [if_pos (by decide)] at e
    omega
theorem mem_strs {m : List Str} {x : V} (h : x ∈ m.map V.str) : ∃ y ∈ m, x = .str y := by
  obtain ⟨y, h1, h2⟩ := List.mem_map.mp h
  exact ⟨y, h1, h2.symm⟩
theorem dp_signs {K : PySem.W.Frag} {H : Hp} : ∀ l : List Nat, DpAll K H (l.map fun c => V.str ⟨#[c]⟩) (l.map fun c => PyData.str ⟨#[c]⟩)
  | [] => .nil
  | _ :: l => .cons (.str _) (dp_signs l)
theorem dp_bls {K : PySem.W.Frag} {H : Hp} : ∀ l : List Bool, DpAll K H (l.map V.bl) (l.map PyData.bool)
  | [] => .nil
  | _ :: l => .cons (.bl _) (dp_bls l)
theorem take_next {α : Type} {l : List α} {i : Nat} {x : α} (h : l[i]? = some x) : l.take (i + 1) = l.take i ++ [x] := by
  rw [List.take_add_one, h]
  rfl
theorem lt_of_get {α : Type} {l : List α} {i : Nat} {x : α} (h : l[i]? = some x) : i < l.length := (List.getElem?_eq_some_iff.mp h).1
theorem lex1 (a b : Nat) : decide ([a] < [b]) = decide (a < b) := by
  by_cases h : a < b
  · rw [decide_eq_true h]
    exact decide_eq_true (List.Lex.rel h)
  · rw [decide_eq_false h]
    refine decide_eq_false fun z => ?_
    cases z with
    | rel h' => exact h h'
    | cons h' => cases h'
/-! ### the law's call -/
section
variable {P : Program} {w : World} {K : PySem.W.Frag} {mg mb : Str → Option Value} {CX : CXT} {k : Nat} {fa a : Addr} {fd : FuncData} {x : Str} {sp : Sp} {t : Shared} {items : List Value} {ns : List Int}
/-- the law's call at an abstract heap that knows nothing but, perhaps, the script -/
theorem call_from (inK : K.In t.heap) (glob : t.heap.Ns mainGlobals mg) (blt : t.heap.Ns builtinsNs mb) (bltBoot : ∀ x : Str, x ≠ "__name__" → mb x = bootBuiltins x) (noLim : t.heap.NoLimit) (noGens : t.gens = #[])
    (script : t.heap.get? a = some { cls := .type "list", data := .seq items.toArray }) (room : Room k callerA)
    (F : ∀ base : Heap, K.In base → base.Ns mainGlobals mg → FnOkG P w K mg base CX k fa fd [x] sp) (binds : ∀ (s : Shared) (u : Value), BindsTo s fd ⟨[u], []⟩ [(x, u)])
    (none' : ∀ H e s', CX [] H t (fun _ _ _ => False) e s' → False)
    (H : Hp) (only : Only H) (fine : HOk P w H t.heap) (atA : ∀ b, H b ≠ none → b = a ∧ K.lookup a = none) (wish : sp [.ref a] H (fun v _ => v = .bl true) fun _ _ _ => False) :
    codeAny (model P w) callerA (.call (.ref fa) ⟨[.ref a], []⟩) (fun r s' => r = .ok (.ret (.bool true)) ∧ OldK t.heap s'.heap ∧ s'.os = t.os ∧ AllBare s'.gens) t := by
  -- what is no list stays in sight when the script is hidden
  have free : ∀ {b : Addr} {o : Obj}, t.heap.get? b = some o → (b = a → K.lookup a ≠ none ∨ ∃ es ep, o.data = .dict es ep) → H b = none := by
    intro b o e h
    by_cases q : H b = none
    · exact q
    · obtain ⟨rfl, kn⟩ := atA b q
      rcases h rfl with h | ⟨es, ep, h⟩
      · exact absurd kn h
      · rw [script] at e
        cases e
        cases h
  have names : ∀ {b : Addr} {m : Str → Option Value}, t.heap.Ns b m → (hidT t.heap H).Ns b m := by
    rintro b m ⟨o, es, ep, e, d, r⟩
    exact ⟨o, es, ep, hidT_get e (free e fun _ => .inr ⟨es, ep, d⟩), d, r⟩
  have inB : K.In (hidT t.heap H) := fun b o e => hidT_get (inK b o e) (free (inK b o e) fun q => .inl (by
    subst q
    rw [e]
    exact fun z => nomatch z))
  have module : Mod K mg (hidT t.heap H) := by
    obtain ⟨mc, l1, l2⟩ := noLim
    exact ⟨inB, names glob, ⟨mb, names blt, bltBoot⟩, ⟨mc, names l1, l2⟩⟩
  have ground : Env0 P w K mg (hidT t.heap H) callerA [] t H := by
    refine ⟨rfl, module, fun b o e => of_hidT e, ?_, trivial, ?_, fine, .of_eq noGens⟩
    · exact Nat.le_of_eq (hidT_size t.heap H)
    · intro b hb
      cases hb
  have ran := (F _ inB (names glob)).go callerA [] t H ⟨[.ref a], []⟩ [.ref a] [.ref a] (fun v _ => v = .bl true) (fun _ _ _ => False) room rfl ground (binds t (.ref a)) (.cons rfl .nil) wish
  refine codeAny_mono ran ?_
  intro r s' h
  match r, h with
  | .error e, h => exact (none' H e s' h).elim
  | .ok .next, h => exact False.elim h
  | .ok .brk, h => exact False.elim h
  | .ok .cont, h => exact False.elim h
  | .ok (.ret u), h =>
    obtain ⟨v, H', os, bare, un, fine', rel, rfl⟩ := h
    cases (show u = Value.bool true from rel)
    refine ⟨rfl, OldK.of_keep ?_, os, bare⟩
    intro b o e
    cases q : H b with
    | none => exact un.keep b o e q (fun z => nomatch z) (fun z => nomatch z)
    | some u =>
      rcases only b with z | ⟨ob, xs, z⟩
      · exact absurd (z.symm.trans q) (fun y => nomatch y)
      · have before := (fine b _ z).1
        have behind := (fine' b _ (un.frzs b ob _ z)).1
        rw [e] at before
        cases before
        exact behind
theorem law_callG (inK : K.In t.heap) (glob : t.heap.Ns mainGlobals mg) (blt : t.heap.Ns builtinsNs mb) (bltBoot : ∀ x : Str, x ≠ "__name__" → mb x = bootBuiltins x) (noLim : t.heap.NoLimit) (noGens : t.gens = #[])
    (script : t.heap.get? a = some { cls := .type "list", data := .seq items.toArray }) (areInts : IntsAre items ns) (short : ns.length ≤ sizeLine) (room : Room k callerA)
    (F : ∀ base : Heap, K.In base → base.Ns mainGlobals mg → FnOkG P w K mg base CX k fa fd [x] sp) (binds : ∀ (s : Shared) (u : Value), BindsTo s fd ⟨[u], []⟩ [(x, u)])
    (none' : ∀ H e s', CX [] H t (fun _ _ _ => False) e s' → False) (wish : ∀ H : Hp, Only H → SqL K H a (ns.map V.int) → sp [.ref a] H (fun v _ => v = .bl true) fun _ _ _ => False) :
    codeAny (model P w) callerA (.call (.ref fa) ⟨[.ref a], []⟩) (fun r s' => r = .ok (.ret (.bool true)) ∧ OldK t.heap s'.heap ∧ s'.os = t.os ∧ AllBare s'.gens) t := by
  have vals := vals_ints areInts
  cases kn : K.lookup a with
  | some o =>
    have o' := inK a o kn
    rw [script] at o'
    cases o'
    have o1 : Only fun _ => none := fun _ => .inl rfl
    refine call_from inK glob blt bltBoot noLim noGens script room F binds none' (fun _ => none) o1 (fun _ _ z => nomatch z) (fun _ z => absurd rfl z) (wish _ o1 (.inr ⟨_, items.toArray, _, kn, rfl, rfl, rfl, ?_, by simpa using vals⟩))
    rw [List.size_toArray, areInts.length]
    exact short
  | none =>
    let H : Hp := fun b => if b = a then some (.frz { cls := .type "list", data := .seq items.toArray } (.lst (ns.map V.int))) else none
    have here : H a = some (.frz { cls := .type "list", data := .seq items.toArray } (.lst (ns.map V.int))) := if_pos rfl
    have there : ∀ b, b ≠ a → H b = none := fun b hb => if_neg hb
    have o1 : Only H := fun b => if hb : b = a then .inr ⟨_, _, hb ▸ here⟩ else .inl (there b hb)
    refine call_from inK glob blt bltBoot noLim noGens script room F binds none' H o1 (fun b u z => ?_) (fun b z => ?_) (wish _ o1 (.inl (.inr ⟨_, here⟩)))
    · by_cases hb : b = a
      · subst hb
        rw [here] at z
        cases z
        exact ⟨script, by rw [List.length_map]; exact short, items, _, vals, script⟩
      · rw [there b hb] at z
        cases z
    · by_cases hb : b = a
      · exact ⟨hb, kn⟩
      · exact absurd (there b hb) z
end
theorem walk_ofG {l : PySem.W.OpenLaw} {k : Nat} {q : Program} {loose : List Str} {XP : (Str → Option Value) → Heap → Prop} {YP : World → Heap → Prop} {d : DefRec} {K : Params → PySem.W.Frag} {sp : PySem.W.Frag → Sp} {x : Str}
    (most : l.most = some 63) (plain : d.params.defaults = []) (room : Room k callerA) (hY : ∀ (w : World) (h : Heap), YP w h → (K w.params).In h)
    (F : ∀ (w : World) (mg : Str → Option Value) (fa : Addr) (h : Heap), (K w.params).In h → h.Ns mainGlobals mg → mg d.name = some (.ref fa) →
      ∃ fd : FuncData, (∀ (s : Shared) (u : Value), BindsTo s fd ⟨[u], []⟩ [(x, u)]) ∧ ∀ base : Heap, (K w.params).In base → base.Ns mainGlobals mg → FnOkG l.prog w (K w.params) mg base CX0 k fa fd [x] (sp (K w.params)))
    (wish : ∀ (K : PySem.W.Frag) (H : Hp) (a : Addr) (ns : List Int), ns.length ≤ 63 → SqL K H a (ns.map V.int) → sp K [.ref a] H (fun v _ => v = .bl true) fun _ _ _ => False) :
    PySem.W.WalkO q loose XP YP l.row.toRowW d [] (fun f vs => PySem.call f vs) := by
  refine Att.attach_call most plain ?_
  intro w s₀ s₁ mg mb fa o pm cd doc a vs ns G Y _ _ _ named script areInts len gens
  have inK := hY w _ Y
  obtain ⟨fd, binds, ok⟩ := F w mg fa _ inK G.T.g named
  exact law_callG inK G.T.g G.T.b G.T.builtins G.T.nolimit gens script areInts (Nat.le_trans len (by decide)) room ok binds (fun _ _ _ z => z) fun H _ hS => wish _ H a ns len hS
/-! ### repr of data -/
section
variable {X : Cx}
theorem call_repr_data (hG : X.A.guards = some []) (hu : X.A.units + 64 < cLine) : CallR X (.builtin "repr") (fun xs H Q => ∃ (p : Addr) (d : PyData), xs = [.ref p] ∧ Dp X.K H (.ref p) d ∧ d.showable = true ∧ d.hasDict = false ∧ d.depth ≤ 20 ∧ d.shown.length ≤ sizeLine ∧ Q (.str d.shown) H) := by
  intro pins s σ H xs us Q I r h
  obtain ⟨p, d, rfl, hd, h1, h2, h3, h4, q⟩ := h
  obtain ⟨u, rfl, r1⟩ := vals1 r
  cases r1
  obtain ⟨as, rd⟩ := Dp.reads I d (.ref p) (.ref p) hd rfl
  exact repr_of_reads' (h₀ := s.heap) rd h1 (fun z => by rw [h2] at z; cases z) hG (by omega) (fun _ _ e => e) (fun h' u tk k => ⟨.str d.shown, H, I.kept k, ⟨u, rfl⟩, q⟩) h4
end
/-! ### cuts: what is known behind a statement -/
theorem cut_set {te : TE} {i : Nat} {u : TS} {D : Ends} {σ : L2.St} {H : Hp} (PV : V → Hp → Prop) (h : ∀ Q : VK, (∀ v H', PV v H' → Q v H') → te σ H Q) (k : ∀ v H', PV v H' → u D (σ.set i (some v)) H') : tSeq (tAsg te (gName i)) u D σ H := h _ k
theorem cut_for {wi : TI} {g : TG} {tb u : TS} {D : Ends} {σ : L2.St} {H : Hp} (PS' : L2.St → Hp → Prop) (h : ∀ N : L2.St → Hp → Prop, (∀ σ' H', PS' σ' H' → N σ' H') → tFor wi g tb { D with nx := N } σ H) (k : ∀ σ' H', PS' σ' H' → u D σ' H') : tSeq (tFor wi g tb) u D σ H := h _ k
theorem cut_it {K : PySem.W.Frag} {te : TE} {g : TG} {tb : TS} {D : Ends} {σ : L2.St} {H : Hp} (PV : V → Hp → Prop) (h : ∀ Q : VK, (∀ v H', PV v H' → Q v H') → te σ H Q) (k : ∀ v H', PV v H' → tFor (iList K (fun _ H1 Q => Q v H1)) g tb D σ H') : tFor (iList K te) g tb D σ H := h _ k
section
variable {X : Cx}
theorem pe_lc2D {elt tg iter tg1 iter1 : Expr} {ifs ifs1 : List Expr} {scope : Scope} {own : List (Str × Nat)} {vs1 : List Nat} {pos : Pos} {wi : TI} {wi1 : Dep TI} {g g1 : Dep TG} {tt tt1 : Dep TT} {te : Dep TE} (hc : X.calm = true) (hN : X.N.Nodup) (hi : PI X tg iter wi) (ok : BlkOk X.N X.env.scope scope own) (hv : ∀ i ∈ vs1, i ∈ own.map (·.2))
    (hg : ∀ (s : Shared) (H : Hp) (C : Addr) (cl : List (Str × Addr)) (fp : List Addr), PG (X.blk s H scope (compEnvC scope cl C X.env) fp) tg (g s H C cl fp)) (ht : ∀ (s : Shared) (H : Hp) (C : Addr) (cl : List (Str × Addr)) (fp : List Addr), PTs (X.blk s H scope (compEnvC scope cl C X.env) fp) ifs (tt s H C cl fp))
    (hi1 : ∀ (s : Shared) (H : Hp) (C : Addr) (cl : List (Str × Addr)) (fp : List Addr), PI (X.blk s H scope (compEnvC scope cl C X.env) fp) tg1 iter1 (wi1 s H C cl fp))
    (hg1 : ∀ (s : Shared) (H : Hp) (C : Addr) (cl : List (Str × Addr)) (fp : List Addr), PG (X.blk s H scope (compEnvC scope cl C X.env) fp) tg1 (g1 s H C cl fp)) (ht1 : ∀ (s : Shared) (H : Hp) (C : Addr) (cl : List (Str × Addr)) (fp : List Addr), PTs (X.blk s H scope (compEnvC scope cl C X.env) fp) ifs1 (tt1 s H C cl fp))
    (he : ∀ (s : Shared) (H : Hp) (C : Addr) (cl : List (Str × Addr)) (fp : List Addr), PE (X.blk s H scope (compEnvC scope cl C X.env) fp) elt (te s H C cl fp)) (hs : ∀ x, foldedSetIterable iter X.env x = pure x := by intro _; rfl) (hs1 : ∀ env x, foldedSetIterable iter1 env x = pure x := by intro _ _; rfl)
    (eg : ∀ s H C cl fp, g s H C cl fp = g.at X := by intros; rfl) (et : ∀ s H C cl fp, tt s H C cl fp = tt.at X := by intros; rfl) (ei : ∀ s H C cl fp, wi1 s H C cl fp = wi1.at X := by intros; rfl) (eg1 : ∀ s H C cl fp, g1 s H C cl fp = g1.at X := by intros; rfl) (et1 : ∀ s H C cl fp, tt1 s H C cl fp = tt1.at X := by intros; rfl)
    (ee : ∀ s H C cl fp, te s H C cl fp = te.at X := by intros; rfl) :
    PE X (.ListComp elt [⟨tg, iter, ifs, 0⟩, ⟨tg1, iter1, ifs1, 0⟩] scope pos) (tLc2 wi (g.at X) (tt.at X) (wi1.at X) (g1.at X) (tt1.at X) (te.at X) (own.map (·.2)) vs1) :=
  pe_lc2 hc hN hi ok hv (fun s H C cl fp => eg s H C cl fp ▸ hg s H C cl fp) (fun s H C cl fp => et s H C cl fp ▸ ht s H C cl fp) (fun s H C cl fp => ei s H C cl fp ▸ hi1 s H C cl fp) (fun s H C cl fp => eg1 s H C cl fp ▸ hg1 s H C cl fp) (fun s H C cl fp => et1 s H C cl fp ▸ ht1 s H C cl fp)
    (fun s H C cl fp => ee s H C cl fp ▸ he s H C cl fp) hs hs1
end
/-! ### a walk over a tuple, a list, whatever is done in a turn -/
theorem walk_tup {K : PySem.W.Frag} {a : Addr} {xs : List V} {B : V → Hp → (Hp → Prop) → Prop} {H1 : Hp} {Qd : Hp → Prop} (Pv : Nat → Hp → Prop) (h0 : Pv 0 H1) (hl : ∀ i H, i ≤ xs.length → Pv i H → SqT K H a xs)
    (hs : ∀ i x H, xs[i]? = some x → Pv i H → B x H (Pv (i + 1))) (hd : ∀ H, Pv xs.length H → Qd H) :
    ∃ W : Nat → Nat → Hp → Prop, (∃ m, W 0 m H1) ∧ ∀ i m H, W i m H →
      ((Itt K a).stop i H ∧ Qd H) ∨ ((Itt K a).go i H ∧ ∃ Nx : Hp → Prop, (∀ H', Nx H' → ∃ m', m' < m ∧ W (i + 1) m' H') ∧ ∀ x H', (Itt K a).yld i H x H' → B x H' Nx) := by
  refine ⟨fun i m H => (m = xs.length - i ∧ i ≤ xs.length) ∧ Pv i H, ⟨xs.length, ⟨by omega, Nat.zero_le _⟩, h0⟩, ?_⟩
  rintro i m H ⟨⟨rfl, le⟩, p⟩
  have there := hl i H le p
  rcases Nat.lt_or_ge i xs.length with lt | ge
  · have item : xs[i]? = some xs[i] := List.getElem?_eq_getElem lt
    refine .inr ⟨⟨xs, xs[i], there, item⟩, Pv (i + 1), ?_, ?_⟩
    · exact fun H' p' => ⟨xs.length - (i + 1), by omega, ⟨rfl, lt⟩, p'⟩
    · rintro x H' ⟨rfl, y⟩
      exact hs i x _ (y xs there) p
  · have e : i = xs.length := by omega
    subst e
    refine .inl ⟨?_, hd H p⟩
    exact ⟨xs, there, Nat.le_refl _⟩


end My
namespace My
open PySem PySem.Spec PyProof.Rows L2 TL
/-! ### operators of an own class, by the promises of its methods -/
section
variable {X : Cx}
/-- the def at f, called with such values, keeps sp; E is what is wished if it raises -/
def Runs (X : Cx) (f : Addr) (sp : Sp) (E : XK) : Prop := ∀ (pins : List (Addr × Obj)) (σ : L2.St) (H : Hp) (s : Shared) (Q : VK) (us : List Value) (vs : List V), Inv X pins σ H s → Vals vs us → sp vs H Q E →
  wpAny (model X.prog X.w) X.A (call (.ref f) us) (EP X pins σ Q) X.xe s
/-- the same one built-in deeper -/
def Runs1 (X : Cx) (f : Addr) (sp : Sp) (E : XK) : Prop := ∀ (pins : List (Addr × Obj)) (σ : L2.St) (H : Hp) (s : Shared) (Q : VK) (us : List Value) (vs : List V), Inv X pins σ H s → Vals vs us → sp vs H Q E →
  wpAny (model X.prog X.w) X.A.in1 (call (.ref f) us) (EP X pins σ Q) X.xe s
variable {k : Nat} {f : Addr} {fd : FuncData} {ps : List Str} {sp : Sp} {E : XK} {CX : CXT} {C : Addr}
theorem Runs.ofG (F : FnOkG X.prog X.w X.K X.mg X.base CX k f fd ps sp) (room : Room k X.A) (still : X.A.guards = some []) (binds : Binds X.K fd ps []) (pass : Passes CX X E) : Runs X f sp E :=
  fun pins σ H s Q us vs I r h => run_fnG (dvs := []) F room still binds .nil pass I r (by rw [List.append_nil]; exact h)
theorem Runs.of (F : FnOk X.prog X.w X.K X.mg X.base CX k f fd ps sp) (room : Room k X.A) (binds : Binds X.K fd ps []) (pass : Passes CX X E) : Runs X f sp E :=
  fun pins σ H s Q us vs I r h => run_fn (dvs := []) F room binds .nil pass I r (by rw [List.append_nil]; exact h)
theorem Runs1.of (F : FnOk X.prog X.w X.K X.mg X.base CX k f fd ps sp) (room : Room (k + 1) X.A) (binds : Binds X.K fd ps []) (pass : Passes CX X E) : Runs1 X f sp E := by
  intro pins σ H s Q us vs I r h
  have len : (us ++ []).length = ps.length := by rw [List.append_nil, ← r.length]; exact F.len _ _ _ _ h
  have ran := F.run X.A.in1 X.stack s H ⟨us, []⟩ (us ++ []) vs Q E room.in1 I.env0.in1 (binds s us I.kIn len) (by rw [List.append_nil]; exact r) h
  refine wpAny_call (codeAny_mono ran ?_)
  intro r s' h
  match r, h with
  | .error e, h => exact pass pins σ H s e s' I h
  | .ok (.ret u), h => exact I.after h
  | .ok .next, h => exact False.elim h
  | .ok .brk, h => exact False.elim h
  | .ok .cont, h => exact False.elim h
theorem ep_back {pins : List (Addr × Obj)} {σ : L2.St} {Q : VK} {u : Value} {s' : Shared} (h : EP X pins σ Q u s') : PySem.W.CmpBack (EP X pins σ Q) u s' := by
  obtain ⟨v, H', I, r, q⟩ := h
  have no : u ≠ .notImplemented := fun z => by
    subst z
    cases v <;> first | (obtain ⟨_, z⟩ := r; exact nomatch z) | exact nomatch (show Value.notImplemented = _ from r)
  cases u <;> first | exact ⟨v, H', I, r, q⟩ | exact absurd rfl no
/-- an instance, as the library sees it -/
theorem inst_at {pins : List (Addr × Obj)} {σ : L2.St} {H : Hp} {s : Shared} {a dx : Addr} {fs : List (Str × V)} (I : Inv X pins σ H s) (h : H a = some (.ins C dx fs)) : ∃ od, PySem.W.InstAt s.heap a (PySem.W.instObj C dx) C (some od) := by
  obtain ⟨mA, O, _⟩ := ins_get I.hok h
  obtain ⟨od, J, _⟩ := O.look
  exact ⟨od, J⟩
/-- x op y, both of the class -/
def rOwn (C : Addr) (sp : Sp) (E : XK) : R2 := fun x y H Q => ∃ a dx fs b dx2 fs2, x = .ref a ∧ y = .ref b ∧ H a = some (.ins C dx fs) ∧ H b = some (.ins C dx2 fs2) ∧ sp [x, y] H Q E
theorem op_own {op : Operator} (R : Runs X f sp E) (first : PySem.W.selfFirst X.K C = true) (there : PySem.W.findIn X.K (.ref C) (PySem.dunder op.info.2) = some (some (.ref f))) (fn : PySem.W.isFn X.K (.ref f) = true) : OpR X (binaryOp op) (rOwn C sp E) := by
  intro pins s σ H x y u v Q I rx ry h
  obtain ⟨a, dx, fs, b, dx2, fs2, rfl, rfl, ha, hb, q⟩ := h
  cases rx
  cases ry
  obtain ⟨od, J⟩ := inst_at I ha
  obtain ⟨od2, J2⟩ := inst_at I hb
  obtain ⟨m, fr⟩ := I.fr
  refine PySem.W.binop_K fr I.ok.mod.kin J J2.type first there fn ?_
  exact wpAny_mono (R pins σ H s Q [.ref a, .ref b] [.ref a, .ref b] I (.cons rfl (.cons rfl .nil)) q) (fun _ _ z => ep_back z) fun _ _ z => z
theorem op_ownEq (R : Runs X f sp E) (room : X.A.units < cLine) (first : PySem.W.notFirst X.K C (.ref C) = true) (there : PySem.W.findIn X.K (.ref C) "__eq__" = some (some (.ref f))) (fn : PySem.W.isFn X.K (.ref f) = true) : OpR X (compareOp .Eq) (rOwn C sp E) := by
  intro pins s σ H x y u v Q I rx ry h
  obtain ⟨a, dx, fs, b, dx2, fs2, rfl, rfl, ha, hb, q⟩ := h
  cases rx
  cases ry
  obtain ⟨od, J⟩ := inst_at I ha
  obtain ⟨od2, J2⟩ := inst_at I hb
  obtain ⟨m, fr⟩ := I.fr
  refine PySem.W.cmp_K (op := .Eq) room fr I.ok.mod.kin J J2.type first there fn ?_
  exact wpAny_mono (R pins σ H s Q [.ref a, .ref b] [.ref a, .ref b] I (.cons rfl (.cons rfl .nil)) q) (fun _ _ z => ep_back z) fun _ _ z => z
/-- x != y where the class has __eq__ alone -/
def rOwnNe (C : Addr) (sp : Sp) (E : XK) : R2 := fun x y H Q => ∃ a dx fs b dx2 fs2, x = .ref a ∧ y = .ref b ∧ H a = some (.ins C dx fs) ∧ H b = some (.ins C dx2 fs2) ∧ sp [x, y] H (fun v H' => ∃ c, v = .bl c ∧ Q (.bl (!c)) H') E
theorem op_ownNe (R : Runs1 X f sp E) (room : X.A.units + 1 < cLine) (first : PySem.W.notFirst X.K C (.ref C) = true) (ne : PySem.W.findIn X.K (.ref C) "__ne__" = some (some (.builtin "object.__ne__"))) (under : PySem.W.subIn X.K (.ref C) (.type "object") = some true)
    (there : PySem.W.findIn X.K (.ref C) "__eq__" = some (some (.ref f))) (fn : PySem.W.isFn X.K (.ref f) = true) : OpR X (compareOp .NotEq) (rOwnNe C sp E) := by
  intro pins s σ H x y u v Q I rx ry h
  obtain ⟨a, dx, fs, b, dx2, fs2, rfl, rfl, ha, hb, q⟩ := h
  cases rx
  cases ry
  obtain ⟨od, J⟩ := inst_at I ha
  obtain ⟨od2, J2⟩ := inst_at I hb
  have K' := I.kIn
  have sub : PySem.W.Looks (model X.prog X.w) s.heap (isInstance (.ref a) (.type "object")) true := J.type.andThen (PySem.W.looks_subIn K' under)
  -- object.__ne__ asks __eq__ and turns the answer round
  have body : wpAny (model X.prog X.w) X.A (tryCompare (.ref a) "__ne__" (.ref b)) (fun r s' => ∃ w, r = some w ∧ EP X pins σ Q w s') X.xe s := by
    unfold tryCompare
    refine wpAny_bind ?_
    simp only [callSpecialIfBound?, bindSpecialIfBound?]
    refine wpAny_holding (wpAny_bind (wpAny_bind (wpAny_bind (J.type.here ((PySem.W.looks_findIn K' ne).here ?_)))))
    simp only [PySem.F.cmp_object.ne.bind]
    have fin : wpAny (model X.prog X.w) X.A (call (.builtin "object.__ne__") [.ref a, .ref b]) (fun w s' => EP X pins σ Q w s' ∧ w ≠ .notImplemented) X.xe s := by
      refine wpAny_call (codeAny_call_builtin PySem.F.cmp_object.ne.plain PySem.F.cmpEntry_ne (@PySem.W.check_slot (model X.prog X.w) _ _ s "object.__ne__" "object" "__ne__" (.ref a) [.ref b] [] _ PySem.F.cmpKind_ne PySem.F.cmpSplit_ne sub (PySem.F.cmpArgs_ne _ _) ?_))
      unfold Builtin.«object.__ne__»
      refine wpAny_bind (m := slotArgs "__ne__" 1 _) (wpAny_pure ?_)
      refine wpAny_bind (wpAny_cRoomFor (by show X.A.units + 1 < cLine; exact room) (wpAny_bind ?_))
      refine PySem.W.ifBound_K K' J there fn (wpAny_mono (R pins σ H s _ [.ref a, .ref b] [.ref a, .ref b] I (.cons rfl (.cons rfl .nil)) q) (fun w s' z => ?_) fun _ _ z => z)
      obtain ⟨v, H', I', r, c, rfl, q'⟩ := z
      cases r
      refine wpAny_bind (wpAny_truthy_bool ?_)
      exact wpAny_pure ⟨⟨.bl (!c), H', I', rfl, q'⟩, fun z => nomatch z⟩
    refine wpAny_bind (wpAny_askSetting (wpAny_ite ?_))
    split
    · refine wpAny_bind (wpAny_pure (wpAny_pure (wpAny_bind (wpAny_mono fin (fun w s' z => wpAny_pure ?_) fun _ _ z => z))))
      obtain ⟨z, no⟩ := z
      cases w <;> first | exact absurd rfl no | exact wpAny_pure ⟨_, rfl, z⟩
    · refine wpAny_tryCatch (wpAny_bind (wpAny_pure (wpAny_pure (wpAny_bind (wpAny_mono fin (fun w s' z => wpAny_pure ?_) fun _ _ z => z)))))
      obtain ⟨z, no⟩ := z
      cases w <;> first | exact absurd rfl no | exact wpAny_pure ⟨_, rfl, z⟩
  show wpAny (model X.prog X.w) X.A (richCompare .NotEq (.ref a) (.ref b)) _ _ _
  unfold richCompare
  simp only [oneThing_ref]
  refine wpAny_holding (wpAny_bind (wpAny_cRoomFor (by omega) ?_))
  refine wpAny_bind (J.type.here (wpAny_bind (J2.type.here ?_)))
  simp only [bne_self_eq_false, Bool.false_eq_true, if_false]
  refine wpAny_bind (wpAny_pure ?_)
  refine wpAny_bind (wpAny_mono body (fun r s' z => ?_) fun _ _ z => z)
  obtain ⟨w, rfl, z⟩ := z
  exact wpAny_pure z
end
/-! ### defs, methods, properties, makers that look at no guard, by their promises -/
structure CalN (P : Program) (w : World) (K : PySem.W.Frag) (mg : Str → Option Value) (base : Heap) (x : Str) (k : Nat) (ps : List Str) (sp : Sp) : Prop where
  ex : ∃ f fd, FnOk P w K mg base CX0 k f fd ps sp ∧ mg x = some (.ref f) ∧ PySem.W.keepIn K (.ref f) = true ∧ Binds K fd ps []
theorem CalN.of {P : Program} {w : World} {K : PySem.W.Frag} {mg : Str → Option Value} {base : Heap} {x q : Str} {k : Nat} {ps : List Str} {sp : Sp} {st : Stmt} {f : Addr} {fd : FuncData}
    (F : Fun K x q st f fd) (hm : mg x = some (.ref f)) (hb : Binds K fd ps []) (ok : FnOk P w K mg base CX0 k f fd ps sp) : CalN P w K mg base x k ps sp := ⟨f, fd, ok, hm, F.kp, hb⟩
theorem CalN.lift {P : Program} {w : World} {K : PySem.W.Frag} {mg : Str → Option Value} {base : Heap} {x : Str} {k : Nat} {ps : List Str} {sp : Sp} (c : CalN P w K mg base x k ps sp) : Cal P w K mg base x k ps sp := by
  obtain ⟨f, fd, ok, hm, kp, hb⟩ := c.ex
  exact ⟨f, fd, .lift ok, hm, kp, hb⟩
structure MetC (P : Program) (w : World) (K : PySem.W.Frag) (mg : Str → Option Value) (base : Heap) (C : Addr) (m : Str) (k : Nat) (ps : List Str) (sp : Sp) : Prop where
  ex : ∃ f fd, FnOk P w K mg base CX0 k f fd ps sp ∧ Meth K C m f ∧ Binds K fd ps []
structure PrpC (P : Program) (w : World) (K : PySem.W.Frag) (mg : Str → Option Value) (base : Heap) (C : Addr) (m : Str) (k : Nat) (ps : List Str) (sp : Sp) : Prop where
  ex : ∃ p g fd, FnOk P w K mg base CX0 k g fd ps sp ∧ PropOf K C m p g ∧ Binds K fd ps []
structure MakC (P : Program) (w : World) (K : PySem.W.Frag) (mg : Str → Option Value) (base : Heap) (C : Addr) (k : Nat) (ps : List Str) (sp : Sp) : Prop where
  ex : ∃ f fd, FnOk P w K mg base CX0 k f fd ps sp ∧ Mk K C f ∧ Binds K fd ps []
section
variable {X : Cx} {x m : Str} {k : Nat} {ps : List Str} {sp : Sp} {e o : Expr} {es : List Expr} {ta : TE} {t : TA} {p pos apos : Pos} {C : Addr}
theorem pe_callN (c : CalN X.prog X.w X.K X.mg X.base x k ps sp) (room : Room k X.A) (hg : Gl X x) (ha : PA X (e :: es) t) (hdb : (x == ("__debug__" : Str)) = false := by decide)
    (he : starEach (e :: es) X.env = (false, eval e X.env) :: starEach es X.env := by rfl) (hpl : (backTo pos (starEach es X.env)).any (·.1) = false := by rfl) :
    PE X (.Call (.Name x p) (e :: es) [] pos) (tCall sp [] E0 t) := by
  obtain ⟨f, fd, ok, hm, kp, hb⟩ := c.ex
  exact pe_call ok room hg hm kp hb .nil pass0 ha hdb he hpl
theorem pe_methC {pl : Sem Bool} (c : MetC X.prog X.w X.K X.mg X.base C m k ps sp) (cls : Cls X.K C) (room : Room k X.A) (ho : PE X o ta) (ha : PA X (e :: es) t)
    (hst : starEach (e :: es) X.env = (false, eval e X.env) :: starEach es X.env := by rfl) (hpl : (backTo pos (starEach es X.env)).any (·.1) = false := by rfl)
    (ht : eval (.Call (.Attribute o m apos) (e :: es) [] pos) X.env = (do
      let ov ← eval o X.env
      standAt apos.atName
      let (f, first) ← holding [ov] (getMethod ov m pl)
      callWith pos f first (backTo pos (starEach (e :: es) X.env)) (backToKw pos (keywordEach [] X.env))) := by rfl) :
    PE X (.Call (.Attribute o m apos) (e :: es) [] pos) (tMeth C m sp [] E0 ta t) := by
  obtain ⟨f, fd, ok, hm, hb⟩ := c.ex
  exact pe_meth ho cls hm ok room hb .nil pass0 ha hst hpl ht
theorem pe_propC (c : PrpC X.prog X.w X.K X.mg X.base C m k ps sp) (cls : Cls X.K C) (room : Room (k + 1) X.A) (he : PE X e ta) (hab : attributeBase e m X.env (eval e X.env) = eval e X.env := by rfl) :
    PE X (.Attribute e m pos) (tProp C sp [] E0 ta) := by
  obtain ⟨q, g, fd, ok, hp, hb⟩ := c.ex
  exact pe_prop he cls hp ok room hb .nil pass0 hab
theorem pe_makeC (c : MakC X.prog X.w X.K X.mg X.base C k ps sp) (room : Room (k + 1) X.A) (hg : Gl X x) (hm : X.mg x = some (.ref C)) (ha : PA X (e :: es) t) (hdb : (x == ("__debug__" : Str)) = false := by decide)
    (he : starEach (e :: es) X.env = (false, eval e X.env) :: starEach es X.env := by rfl) (hpl : (backTo pos (starEach es X.env)).any (·.1) = false := by rfl) :
    PE X (.Call (.Name x p) (e :: es) [] pos) (tMake C sp [] E0 t) := by
  obtain ⟨f, fd, ok, M, hb⟩ := c.ex
  exact pe_make M ok room hg hm hb .nil pass0 ha hdb he hpl
theorem op_ownC {op : Operator} (c : MetC X.prog X.w X.K X.mg X.base C m k ps sp) (room : Room k X.A) (first : PySem.W.selfFirst X.K C = true) (name : PySem.dunder op.info.2 = m := by rfl) : OpR X (binaryOp op) (rOwn C sp E0) := by
  obtain ⟨f, fd, ok, M, hb⟩ := c.ex
  exact op_own (Runs.of ok room hb pass0) first (name ▸ M.at_) M.fn
theorem op_eqC (c : MetC X.prog X.w X.K X.mg X.base C "__eq__" k ps sp) (room : Room k X.A) (first : PySem.W.notFirst X.K C (.ref C) = true) : OpR X (compareOp .Eq) (rOwn C sp E0) := by
  obtain ⟨f, fd, ok, M, hb⟩ := c.ex
  exact op_ownEq (Runs.of ok room hb pass0) room.units0 first M.at_ M.fn
theorem op_neC (c : MetC X.prog X.w X.K X.mg X.base C "__eq__" k ps sp) (room : Room (k + 1) X.A) (first : PySem.W.notFirst X.K C (.ref C) = true) (ne : PySem.W.findIn X.K (.ref C) "__ne__" = some (some (.builtin "object.__ne__")))
    (under : PySem.W.subIn X.K (.ref C) (.type "object") = some true) : OpR X (compareOp .NotEq) (rOwnNe C sp E0) := by
  obtain ⟨f, fd, ok, M, hb⟩ := c.ex
  exact op_ownNe (Runs1.of ok room hb pass0) (by have := room.units; omega) first ne under M.at_ M.fn
end
/-- a property that hands out a field -/
theorem _root_.L2.Fun.getter {P : Program} {w : World} {K : PySem.W.Frag} {mg : Str → Option Value} {base : Heap} {x qual g : Str} {st : Stmt} {f C : Addr} {fd : FuncData} {N : List Str} {p1 p2 p3 : Pos} (F : Fun K x qual st f fd)
    (S : FnScope N ["self"] (defScope st)) (c : Cls K C) (n : NoAttr K C g) (hN : N[0]? = some ("self" : Str) := by rfl) (body : defBody st = [.Return (some (.Attribute (.Name "self" p1) g p2)) p3] := by rfl) : FnOk P w K mg base CX0 1 f fd ["self"] (getSp C g) := by
  obtain ⟨oc, od, kV, doc, pm, an, cv, ct, osl, rfl, found, isCode⟩ := F.ex
  exact fn_getter found isCode S hN body c n
section
variable {X : Cx} {x : Str} {k : Nat} {ps : List Str} {sp : Sp} {e : Expr} {es : List Expr} {tf : TE} {t : TA} {p pos : Pos} {C : Addr}
/-- x(e, ..), x a name of the def that holds the class -/
def tMakeV (C : Addr) (sp : Sp) (tf : TE) (t : TA) : TE := fun σ H Q => tf σ H fun v H1 => v = .ref C ∧ tMake C sp [] E0 t σ H1 Q
theorem pe_makeV (c : MakC X.prog X.w X.K X.mg X.base C k ps sp) (room : Room (k + 1) X.A) (hf : PE X (.Name x p) tf) (ha : PA X (e :: es) t)
    (he : starEach (e :: es) X.env = (false, eval e X.env) :: starEach es X.env := by rfl) (hpl : (backTo pos (starEach es X.env)).any (·.1) = false := by rfl) :
    PE X (.Call (.Name x p) (e :: es) [] pos) (tMakeV C sp tf t) := by
  obtain ⟨f, fd, ok, M, hb⟩ := c.ex
  refine ⟨fun pins s σ H Q I h => wpAny_Call_Name_kw (thn (hf.run pins s σ H _ I h) fun g s0 got => ?_)⟩
  obtain ⟨v, H0, I0, r0, rfl, q0⟩ := got
  cases r0
  exact PySem.W.callWith_K (h₀ := X.base) I0.ok.mod.kin M.kp (thn (ha.run pos pins s0 σ H0 _ I0 q0) fun us s1 ⟨vs, H1, I1, r, q⟩ => ⟨I1.kIn, run_make M ok room hb .nil pass0 I1 r q⟩) he hpl
end

/-! ### max of a list of ints, with a default -/
section
variable {prog : Program} {w : World} {A : Around} {E : Value → Shared → Prop} {s : Shared}
theorem gt_pair {a b : Int} {t u : Tok} {Q : Value → Shared → Prop} (h : Q (.bool (decide (a > b))) s) : wpAny (model prog w) A (richCompare .Gt (.int a t) (.int b u)) Q E s := by
  refine CmpOf.ints_gt (P := fun i v => (i = 0 ∧ v = .int a t) ∨ (i = 1 ∧ v = .int b u)) (fun i => if i = 0 then a else b) ?_ 0 1 _ _ s Q E (.inl ⟨rfl, rfl⟩) (.inr ⟨rfl, rfl⟩) h
  rintro i v (⟨rfl, rfl⟩ | ⟨rfl, rfl⟩)
  · exact ⟨t, rfl⟩
  · exact ⟨u, rfl⟩
/-- the greatest of b and of f j, .., k of them -/
def topOf (f : Nat → Int) : Int → Nat → Nat → Int
  | b, _, 0 => b
  | b, j, k + 1 => topOf f (if f j > b then f j else b) (j + 1) k
theorem topOf_ge (f : Nat → Int) : ∀ (k j : Nat) (b : Int), b ≤ topOf f b j k ∧ ∀ i, i < k → f (j + i) ≤ topOf f b j k
  | 0, _, b => ⟨Int.le_refl _, fun i h => absurd h (Nat.not_lt_zero _)⟩
  | k + 1, j, b => by
    obtain ⟨h1, h2⟩ := topOf_ge f k (j + 1) (if f j > b then f j else b)
    have h0 : b ≤ (if f j > b then f j else b) ∧ f j ≤ (if f j > b then f j else b) := by
      by_cases h : f j > b
      · rw [if_pos h]
        omega
      · rw [if_neg h]
        omega
    refine ⟨Int.le_trans h0.1 h1, fun i hi => ?_⟩
    cases i with
    | zero => exact Int.le_trans h0.2 h1
    | succ i =>
      have := h2 i (by omega)
      rw [show j + 1 + i = j + (i + 1) by omega] at this
      exact this
theorem topOf_mem (f : Nat → Int) : ∀ (k j : Nat) (b : Int), topOf f b j k = b ∨ ∃ i, i < k ∧ topOf f b j k = f (j + i)
  | 0, _, _ => .inl rfl
  | k + 1, j, b => by
    show topOf f (if f j > b then f j else b) (j + 1) k = b ∨ _
    rcases topOf_mem f k (j + 1) (if f j > b then f j else b) with h | ⟨i, hi, h⟩
    · by_cases q : f j > b
      · rw [if_pos q] at h
        exact .inr ⟨0, Nat.succ_pos k, by show topOf f (if f j > b then f j else b) (j + 1) k = f j; rw [if_pos q]; exact h⟩
      · rw [if_neg q] at h
        exact .inl (by rw [if_neg q]; exact h)
    · exact .inr ⟨i + 1, Nat.succ_lt_succ hi, by show topOf f (if f j > b then f j else b) (j + 1) k = f (j + (i + 1)); rw [h]; congr 1; omega⟩
def listObj (vs : Array Value) (c : Nat) : Obj := { cls := .type "list", dict := none, data := .seq vs c, slots := #[] }
variable {R : Result → Shared → Prop} {I best : Addr} {fp wr : List Addr} {n : Nat} {P : Nat → Value → Prop} {St : Nat → Heap → Prop}
theorem max_name : (toString "max" ++ toString ".loop" : String) = "max.loop" := by decide
/-- behind the first item -/
theorem maxd_rest (W : Walks prog w A.in1 I fp wr n P St) (f : Nat → Int) (num : ∀ j v, P j v → ∃ t, v = .int (f j) t) (apart : best ∉ fp) (kw : List (Str × Value)) :
    ∀ (k j : Nat) (t : Shared) (b : Int) (u : Tok) (c : Nat), n = j + k → St j t.heap → t.heap.get? best = some (listObj #[.int b u, .int b u] c) →
      (∀ u' h' tk, (∀ a o, a ∉ wr → a ≠ best → t.heap.get? a = some o → h'.get? a = some o) → R (.ok (.ret (.int (topOf f b j k) u'))) { t with heap := h', toks := tk }) →
      codeAny (model prog w) A (.builtin "max.loop" ⟨[.ref I, .none, .ref best], kw⟩) R t
  | 0, j, t, b, u, c, e, st, there, fin => by
    have notWr : best ∉ wr := fun z => apart (W.sub _ z)
    refine codeAny_builtin PySem.F.entry_max_loop ?_
    rw [Around.under_plainId PySem.F.plain_max_loop _]
    show wpAny _ A.in1 (seqItems? (.ref best) >>= _) _ _ t
    refine wpAny_bind (wpAny_seqItems there
      rfl ?_)
    show wpAny _ A.in1 (tryCatch (pyNext (.ref I)) _ >>= _) _ _ t
    have st' : St n t.heap := by rw [e]; exact st
    refine wpAny_bind (wpAny_tryCatch (W.done t _ _ st' fun h1 tk1 old => ?_))
    have there1 := old best _ notWr there
    show wpAny _ A.in1 (updateSeq best (fun _ => #[]) >>= _) _ _ _
    refine wpAny_bind (wpAny_updateSeq there1 rfl (wpAny_bind
      (wpAny_letGo (wpAny_pure ?_))))
    exact fin u _ tk1 fun a o na nb q => (Heap.get?_update_other _ _ (Ne.symm nb)).trans (old a o na q)
  | k + 1, j, t, b, u, c, e, st, there, fin => by
    have notWr : best ∉ wr := fun z => apart (W.sub _ z)
    refine codeAny_builtin PySem.F.entry_max_loop ?_
    rw [Around.under_plainId PySem.F.plain_max_loop _]
    show wpAny _ A.in1 (seqItems? (.ref best) >>= _) _ _ t
    refine wpAny_bind (wpAny_seqItems there
      rfl ?_)
    show wpAny _ A.in1 (tryCatch (pyNext (.ref I)) _ >>= _) _ _ t
    refine wpAny_bind (wpAny_tryCatch (W.item j t _ _ (by omega) st fun v h1 tk1 pv st1 old => ?_))
    obtain ⟨tv, rfl⟩ := num j v pv
    have there1 := old best _ notWr there
    show wpAny _ A.in1 (tryCatch (holding [Value.int (f j) tv, Value.int (f j) tv] (richCompare .Gt (.int (f j) tv) (.int b u) >>= _)) _ >>= _) _ _ _
    refine wpAny_bind (wpAny_tryCatch (wpAny_holding (wpAny_bind (gt_pair ?_))))
    refine wpAny_bind (wpAny_holding (wpAny_truthy_bool ?_))
    refine wpAny_bind (wpAny_letGo (wpAny_pure ?_))
    by_cases gt : f j > b
    · have top : topOf f b j (k + 1) = topOf f (f j) (j + 1) k := by
        show topOf f (if f j > b then f j else b) (j + 1) k = _
        rw [if_pos gt]
      rw [decide_eq_true gt]
      simp only [if_true]
      refine wpAny_bind (wpAny_updateSeq there1 rfl (wpAny_bind
        (wpAny_letGo ?_)))
      rw [max_name]
      refine wpAny_pure ⟨plainId_quiet PySem.F.plain_max_loop _, maxd_rest W f num apart kw k (j + 1) _ (f j) tv _ (by omega) (W.frame _ _ _ st1 fun a na o q => ?_) (Heap.get?_update_self _ there1 rfl) fun u' h' tk later => ?_⟩
      · exact (Heap.get?_update_other _ _ (fun z : best = a => apart (by rw [z]; exact na))).trans q
      · rw [← top]
        exact fin u' h' tk fun a o na nb q => later a o na nb ((Heap.get?_update_other _ _ (Ne.symm nb)).trans (old a o na q))
    · have top : topOf f b j (k + 1) = topOf f b (j + 1) k := by
        show topOf f (if f j > b then f j else b) (j + 1) k = _
        rw [if_neg gt]
      rw [decide_eq_false gt]
      simp only [Bool.false_eq_true, if_false]
      refine wpAny_bind (wpAny_letGo ?_)
      rw [max_name]
      refine wpAny_pure ⟨plainId_quiet PySem.F.plain_max_loop _, maxd_rest W f num apart kw k (j + 1) _ b u c (by omega) st1 there1 fun u' h' tk later => ?_⟩
      rw [← top]
      exact fin u' h' tk fun a o na nb q => later a o na nb (old a o na q)
theorem args_maxd (a d : Value) : argsOk "max" ⟨[a], [("default", d)]⟩ := by
  unfold argsOk
  kernel_rfl
/-- the loop from its start -/
theorem maxd_loop (W : Walks prog w A.in1 I fp wr n P St) (f : Nat → Int) (num : ∀ j v, P j v → ∃ t, v = .int (f j) t) (apart : best ∉ fp) {z : Int} {tz : Tok} {kn : Str} (t : Shared) (c : Nat) (st : St 0 t.heap) (there : t.heap.get? best = some (listObj #[] c))
    (fin : ∀ m u h' tk, (∀ a o, a ∉ wr → a ≠ best → t.heap.get? a = some o → h'.get? a = some o) → (n = 0 → m = z) → (0 < n → (∃ i, i < n ∧ m = f i) ∧ ∀ i, i < n → f i ≤ m) → R (.ok (.ret (.int m u))) { t with heap := h', toks := tk }) :
    codeAny (model prog w) A (.builtin "max.loop" ⟨[.ref I, .none, .ref best], [(kn, .int z tz)]⟩) R t := by
  have notWr : best ∉ wr := fun z => apart (W.sub _ z)
  refine codeAny_builtin PySem.F.entry_max_loop ?_
  rw [Around.under_plainId PySem.F.plain_max_loop _]
  show wpAny _ A.in1 (seqItems? (.ref best) >>= _) _ _ t
  refine wpAny_bind (wpAny_seqItems there
    rfl ?_)
  show wpAny _ A.in1 (tryCatch (pyNext (.ref I)) _ >>= _) _ _ t
  cases e : n with
  | zero =>
    subst e
    refine wpAny_bind (wpAny_tryCatch (W.done t _ _ st fun h1 tk1 old => ?_))
    refine wpAny_bind (wpAny_rule (wpAny_pure ?_))
    exact fin z tz h1 tk1 (fun a o na _ q => old a o na q) (fun _ => rfl) fun h => absurd h (Nat.lt_irrefl 0)
  | succ k =>
    refine wpAny_bind (wpAny_tryCatch (W.item 0 t _ _ (by omega) st fun v h1 tk1 pv st1 old => ?_))
    obtain ⟨tv, rfl⟩ := num 0 v pv
    have there1 := old best _ notWr there
    show wpAny _ A.in1 (updateSeq best (fun _ => #[Value.int (f 0) tv, Value.int (f 0) tv]) >>= _) _ _ _
    refine wpAny_bind (wpAny_updateSeq there1
      rfl ?_)
    rw [max_name]
    refine wpAny_pure ⟨plainId_quiet PySem.F.plain_max_loop _, maxd_rest W f num apart [(kn, .int z tz)] k 1 _ (f 0) tv _ (by omega) (W.frame _ _ _ st1 fun a na o q => ?_) (Heap.get?_update_self _ there1 rfl) fun u' h' tk later => ?_⟩
    · exact (Heap.get?_update_other _ _ (fun z : best = a => apart (by rw [z]; exact na))).trans q
    · refine fin _ u' h' tk (fun a o na nb q => later a o na nb ((Heap.get?_update_other _ _ (Ne.symm nb)).trans (old a o na q))) (fun h => by omega) fun _ => ?_
      obtain ⟨g1, g2⟩ := topOf_ge f k 1 (f 0)
      refine ⟨?_, fun i hi => ?_⟩
      · rcases topOf_mem f k 1 (f 0) with h | ⟨i, hi, h⟩
        · exact ⟨0, by omega, h⟩
        · exact ⟨1 + i, by omega, h⟩
      · cases i with
        | zero => exact g1
        | succ i =>
          have := g2 i (by omega)
          rw [show 1 + i = i + 1 by omega] at this
          exact this
theorem ints_get : ∀ {its : List Value} {ns : List Int}, IntsAre its ns → ∀ (j : Nat) (v : Value), its[j]? = some v → ∃ t, v = .int (ns.getD j 0) t
  | _, _, .nil, j, v, h => by simp at h
  | _, _, .cons k t r, 0, v, h => ⟨t, (Option.some.inj h).symm⟩
  | _, _, .cons k t r, j + 1, v, h => ints_get r j v h
theorem call_maxd {l : Addr} {its : List Value} {ns : List Int} {z : Int} {tz : Tok} {Q : Value → Shared → Prop} (calm : A.handled = none) (hl : s.heap.IsList l its.toArray) (nums : IntsAre its ns)
    (fin : ∀ m u h' tk, (∀ a o, s.heap.get? a = some o → h'.get? a = some o) → (ns = [] → m = z) → (ns ≠ [] → m ∈ ns ∧ ∀ y ∈ ns, y ≤ m) → Q (.int m u) { s with heap := h', toks := tk }) :
    wpAny (model prog w) A (call (.builtin "max") [.ref l] [("default", .int z tz)]) Q E s := by
  have ok : checkBuiltinCall "max" ⟨[.ref l], [("default", .int z tz)]⟩ = pure () := by
    simp only [checkBuiltinCall, PySem.F.kind_max]
    have h := args_maxd (.ref l) (.int z tz)
    cases e : Manifest.signature? "max" with
    | none => rfl
    | some sig =>
      simp only [argsOk, e] at h
      exact h
  refine wpAny_call (codeAny_call_builtin PySem.F.plain_max PySem.F.entry_max ?_)
  rw [ok]
  refine wpAny_pure ?_
  show wpAny _ A.in1 (Builtin.Builtins.bindParams "max" ["key", "default"] 0 ⟨[], [("default", .int z tz)]⟩ >>= _) _ _ s
  refine wpAny_bind (wpAny_of_eq (show Builtin.Builtins.bindParams "max" ["key", "default"] 0 ⟨[], [("default", .int z tz)]⟩ = pure [none, some (.int z tz)] from rfl) ?_)
  refine wpAny_bind (wpAny_pure ?_)
  have lt : l < s.heap.objs.size := by
    obtain ⟨_, e, _⟩ := hl
    exact Heap.lt_size e
  have len := nums.length
  refine wpAny_bind (wpAny_pyIter_list hl ?_)
  refine wpAny_bind (wpAny_newObj_type ?_)
  rw [max_name]
  have W := Walks.list (prog := prog) (w := w) (A := A.in1) calm s.heap.objs.size l (Nat.ne_of_lt lt) its.toArray
  refine wpAny_pure ⟨plainId_quiet PySem.F.plain_max_loop _, ?_⟩
  refine maxd_loop W (fun i => ns.getD i 0) (fun j v hv => ?_) ?_ _ 0 ?_ (Heap.get?_push_size _ rfl) fun m u h' tk old h0 h1 => ?_
  · exact ints_get nums j v (by simpa using hv)
  · intro hm
    simp only [List.mem_cons, List.not_mem_nil, or_false, Heap.size_push] at hm
    rcases hm with h | h
    · exact absurd h (Nat.succ_ne_self _)
    · exact absurd h (Nat.ne_of_gt (Nat.lt_succ_of_lt lt))
  · exact ⟨⟨_, Heap.get?_push_of_some _ (Heap.get?_push_size _ rfl), rfl, rfl⟩, (hl.push _).push _⟩
  · have size : its.toArray.size = ns.length := by rw [List.size_toArray]; exact len
    refine fin m u h' tk (fun a o q => ?_) (fun e => h0 (by rw [size, e]; rfl)) fun ne => ?_
    · have la : a < s.heap.objs.size := Heap.lt_size q
      refine old a o (fun hm => ?_) (fun e => ?_) (Heap.get?_push_of_some _ (Heap.get?_push_of_some _ q))
      · rw [List.mem_singleton.mp hm] at la
        exact absurd la (Nat.lt_irrefl _)
      · rw [e] at la
        exact absurd (Nat.lt_of_lt_of_le la (by rw [Heap.size_push]; exact Nat.le_succ _)) (Nat.lt_irrefl _)
    · obtain ⟨⟨i, hi, e⟩, top⟩ := h1 (by rw [size]; exact List.length_pos_iff.mpr ne)
      rw [size] at hi top
      refine ⟨?_, fun y hy => ?_⟩
      · rw [e, List.getD_eq_getElem?_getD, List.getElem?_eq_getElem hi]
        exact List.getElem_mem hi
      · obtain ⟨j, hj, e⟩ := List.getElem_of_mem hy
        have := top j hj
        rw [List.getD_eq_getElem?_getD, List.getElem?_eq_getElem hj] at this
        rw [← e]
        exact this
end
section
variable {X : Cx} {e d : Expr} {ta td : TE} {p pos kpos : Pos}
/-- max(e, default=d) -/
def tMaxD (K : PySem.W.Frag) (ta td : TE) : TE := fun σ H Q => ta σ H fun x H1 => tCons td tNil σ H1 fun vs H2 => ∃ y, vs = [y] ∧ ∃ (a : Addr) (ns : List Int) (z : Int), x = .ref a ∧ y = .int z ∧ SqL K H2 a (ns.map V.int) ∧
  ∀ m, (ns = [] → m = z) → (ns ≠ [] → m ∈ ns ∧ ∀ y ∈ ns, y ≤ m) → Q (.int m) H2
theorem pe_maxD (calm : X.calm = true) (hg : Gl X "max") (hm : X.mg "max" = none) (ha : PE X e ta) (hd : PE X d td) (hs : starEach [e] X.env = (false, eval e X.env) :: starEach [] X.env := by rfl)
    (he : backTo pos (starEach [e] X.env) = (false, eval e X.env) :: backTo pos (starEach [] X.env) := by rfl) (hp : (backTo pos (starEach [e] X.env)).any (·.1) = false := by rfl)
    (hall : (backToKw pos (keywordEach [⟨some "default", d, kpos⟩] X.env)).all (·.1.isSome) = true := by rfl) (hkw : (backToKw pos (keywordEach [⟨some "default", d, kpos⟩] X.env)).any (·.1.isNone) = false := by rfl)
    (hn : (backToKw pos (keywordEach [⟨some "default", d, kpos⟩] X.env)).filterMap (·.1) = [("default" : Str)] := by rfl) :
    PE X (.Call (.Name "max" p) [e] [⟨some "default", d, kpos⟩] pos) (tMaxD X.K ta td) := by
  refine ⟨fun pins s σ H Q I h => ?_⟩
  refine wpAny_Call_Name_kw (ld_blt I hg hm (show bootBuiltins "max" = some (.builtin "max") by decide +kernel) ?_)
  refine PyProof.Rows.callWith_kw (id := "max") ?_ he hp hall hkw
  rw [hs]
  show wpAny _ _ (spliced ((false, eval e X.env) :: backTo pos (starEach [] X.env))) _ _ s
  refine Calls.spliced_cons (thn (ha.run pins s σ H _ I h) fun u s1 ⟨x, H1, I1, r1, q1⟩ => ?_)
  refine Calls.spliced_nil ?_
  refine thn ((pk_cons (nm := some "default") (kpos := kpos) hd (pk_nil (X := X))).run pos pins s1 σ H1 (fun vs H2 => ∃ y, vs = [y] ∧ ∃ (a : Addr) (ns : List Int) (z : Int), x = .ref a ∧ y = .int z ∧ SqL X.K H2 a (ns.map V.int) ∧
    ∀ m, (ns = [] → m = z) → (ns ≠ [] → m ∈ ns ∧ ∀ y ∈ ns, y ≤ m) → Q (.int m) H2) I1 q1) ?_
  · rintro us s2 ⟨vs, H2, I2, rv, y, rfl, a, ns, z, rfl, rfl, hl, q⟩
    rw [hn]
    cases rv with
    | cons r2 r3 =>
      cases r3
      obtain ⟨tz, rfl⟩ := r2
      cases r1
      obtain ⟨its, ri, pl, _⟩ := I2.list hl
      show wpAny _ _ (call (.builtin "max") [.ref a] [("default", .int z tz)]) _ _ _
      exact call_maxd (I2.ok.hd calm) pl.isList ri.ints fun m u h' tk old h0 h1 => ⟨.int m, H2, I2.kept old, ⟨u, rfl⟩, q m h0 h1⟩
end

/-! ### len, [], an operator with an int, of an own class; classmethods -/
section
variable {X : Cx} {k : Nat} {f C : Addr} {ps : List Str} {sp : Sp} {E : XK} {e o b : Expr} {es : List Expr} {x m : Str} {ta tb : TE} {t : TA} {p pos apos : Pos}
def rLenO (C : Addr) (sp : Sp) : List V → Hp → VK → Prop := fun xs H Q => ∃ a dx fs, xs = [.ref a] ∧ H a = some (.ins C dx fs) ∧ sp [.ref a] H (fun v H' => ∃ n : Nat, v = .int n ∧ (n : Int) < 2 ^ 63 ∧ Q (.int n) H') E0
theorem call_lenO (c : MetC X.prog X.w X.K X.mg X.base C "__len__" k ps sp) (room : Room (k + 1) X.A) : CallR X (.builtin "len") (rLenO C sp) := by
  obtain ⟨f, fd, ok, M, hb⟩ := c.ex
  intro pins s σ H xs us Q I r h
  obtain ⟨a, dx, fs, rfl, ha, q⟩ := h
  rw [Vals.ref1 r]
  obtain ⟨od, J⟩ := inst_at I ha
  obtain ⟨mm, fr⟩ := I.fr
  refine PySem.W.len_K fr I.ok.mod.kin J M.at_ M.fn ?_
  refine wpAny_mono (Runs1.of ok room hb pass0 pins σ H s _ [.ref a] [.ref a] I (.cons rfl .nil) q) (fun u s' z => ?_) fun _ _ z => z
  obtain ⟨v, H', I', rv, n, rfl, hn, q'⟩ := z
  obtain ⟨tk, rfl⟩ := rv
  exact ⟨⟨Int.natCast_nonneg n, hn⟩, .int n, H', I'.tok _, ⟨_, rfl⟩, q'⟩
def rIxO (C : Addr) (sp : Sp) : R2 := fun x y H Q => ∃ a dx fs, x = .ref a ∧ H a = some (.ins C dx fs) ∧ sp [x, y] H Q E0
theorem pe_ixO (c : MetC X.prog X.w X.K X.mg X.base C m k ps sp) (room : Room (k + 1) X.A) (ha : PE X o ta) (hi : PE X b tb) (fn : ∀ f, Meth X.K C m f → PySem.W.fnIn X.K f = true) (hm : m = "__getitem__" := by rfl)
    (hsl : ∀ (x : Addr) (i : Value), subscripted b true (.ref x) i = runValue (.builtin "lifetime.subscript" ⟨[.ref x, i], []⟩) := by intro _ _; with_unfolding_all rfl) : PE X (.Subscript o b pos) (tOp (rIxO C sp) ta tb) := by
  subst hm
  obtain ⟨f, fd, ok, M, hb⟩ := c.ex
  refine ⟨fun pins s σ H Q I h => ?_⟩
  refine Subscript_ (binT ha hi I h fun v u s2 x y H2 I2 rx ry q => ?_)
  obtain ⟨a, dx, fs, rfl, hx, q⟩ := q
  cases rx
  obtain ⟨od, J⟩ := inst_at I2 hx
  obtain ⟨mm, fr⟩ := I2.fr
  exact PySem.W.sub_K fr I2.ok.mod.kin J M.at_ (fn f M) M.fn (Runs1.of ok room hb pass0 pins σ H2 s2 _ [.ref a, u] [.ref a, y] I2 (.cons rfl (.cons ry .nil)) q) (hsl a u)
/-- x op i, i an int -/
structure OwnI (K : PySem.W.Frag) (C : Addr) (op : Operator) : Prop where
  first : PySem.W.selfFirst K C = true
  rev : ∃ rc, PySem.W.findIn K (.ref C) (PySem.dunderR op.info.2) = some rc ∧ (rc = none ∨ ∃ g : Addr, rc = some (.ref g))
  i1 : ∃ fo, PySem.W.findIn K (.type "int") (PySem.dunder op.info.2) = some fo
  i2 : ∃ ro, PySem.W.findIn K (.type "int") (PySem.dunderR op.info.2) = some ro
  sub : PySem.W.subIn K (.type "int") (.ref C) = some false
def rOwnI (C : Addr) (sp : Sp) : R2 := fun x y H Q => ∃ a dx fs, ∃ i : Int, x = .ref a ∧ y = .int i ∧ H a = some (.ins C dx fs) ∧ sp [x, y] H Q E0
theorem op_ownI {op : Operator} (c : MetC X.prog X.w X.K X.mg X.base C m k ps sp) (room : Room k X.A) (O : OwnI X.K C op) (name : PySem.dunder op.info.2 = m := by rfl) : OpR X (binaryOp op) (rOwnI C sp) := by
  obtain ⟨f, fd, ok, M, hb⟩ := c.ex
  intro pins s σ H x y u v Q I rx ry h
  obtain ⟨a, dx, fs, i, rfl, rfl, ha, q⟩ := h
  cases rx
  obtain ⟨tk, rfl⟩ := ry
  obtain ⟨od, J⟩ := inst_at I ha
  obtain ⟨mm, fr⟩ := I.fr
  obtain ⟨first, ⟨rc, r1, r2⟩, ⟨fo, i1⟩, ⟨ro, i2⟩, sub⟩ := O
  refine PySem.W.ksp_binT fr I.ok.mod.kin J (T := "int") rfl first (name ▸ M.at_) M.fn r1 r2 i1 i2 sub ?_
  exact wpAny_mono (Runs.of ok room hb pass0 pins σ H s Q [.ref a, .int i tk] [.ref a, .int i] I (.cons rfl (.cons ⟨tk, rfl⟩ .nil)) q) (fun _ _ z => ep_back z) fun _ _ z => z
/-- a classmethod by its promise -/
structure CmtC (P : Program) (w : World) (K : PySem.W.Frag) (mg : Str → Option Value) (base : Heap) (C : Addr) (m : Str) (k : Nat) (ps : List Str) (sp : Sp) : Prop where
  ex : ∃ f fd mc p, FnOk P w K mg base CX0 k f fd ps sp ∧ ClX.CRead K C mc ∧ ClX.CMet K C mc m p f ∧ Binds K fd ps []
theorem FnR.ofC {P : Program} {w : World} {K : PySem.W.Frag} {mg : Str → Option Value} {base : Heap} {k : Nat} {f : Addr} {fd : FuncData} {ps : List Str} {sp : Sp} (ok : FnOk P w K mg base CX0 k f fd ps sp) (hb : Binds K fd ps []) : FnR P w K mg base CX0 k f sp := by
  intro A outer s H us vs Q E hr e0 r h
  have there : K.In s.heap := e0.mod.kin.keeps (fun b o e => (e0.bs b o e).1)
  have len : (us ++ []).length = ps.length := by rw [List.append_nil, ← r.length]; exact ok.len _ _ _ _ h
  have hv := hb s us there len
  rw [List.append_nil] at hv
  exact ok.run A outer s H ⟨us, []⟩ us vs Q E hr e0 hv r h
theorem pe_cmethC {pl : Sem Bool} (c : CmtC X.prog X.w X.K X.mg X.base C m k ps sp) (room : Room k X.A) (ho : PE X o ta) (ha : PA X (e :: es) t)
    (hst : starEach (e :: es) X.env = (false, eval e X.env) :: starEach es X.env := by rfl) (hpl : (backTo pos (starEach es X.env)).any (·.1) = false := by rfl)
    (ht : eval (.Call (.Attribute o m apos) (e :: es) [] pos) X.env = (do
      let ov ← eval o X.env
      standAt apos.atName
      let (f, first) ← holding [ov] (getMethod ov m pl)
      callWith pos f first (backTo pos (starEach (e :: es) X.env)) (backToKw pos (keywordEach [] X.env))) := by rfl) :
    PE X (.Call (.Attribute o m apos) (e :: es) [] pos) (ClX.tCMeth C sp E0 ta t) := by
  obtain ⟨f, fd, mc, p, ok, hr, hm, hb⟩ := c.ex
  exact ClX.pe_cmeth ho hr hm (FnR.ofC ok hb) room pass0 ha hst hpl ht
end


end My
namespace My
open PySem PySem.Spec PyProof.Rows L2 TL
/-! ### == of an instance and anything; str of an instance -/
section
variable {X : Cx} {k : Nat} {f C : Addr} {ps : List Str} {sp : Sp} {E : XK}
def rOwnX (K : PySem.W.Frag) (C : Addr) (sp : Sp) (E : XK) : R2 := fun x y H Q => ∃ a dx fs t0, x = .ref a ∧ H a = some (.ins C dx fs) ∧ TyX K H y t0 ∧ PySem.W.notFirst K C t0 = true ∧ sp [x, y] H Q E
theorem op_eqX (c : MetC X.prog X.w X.K X.mg X.base C "__eq__" k ps sp) (room : Room k X.A) : OpR X (compareOp .Eq) (rOwnX X.K C sp E0) := by
  obtain ⟨f, fd, ok, M, hb⟩ := c.ex
  intro pins s σ H x y u v Q I rx ry h
  obtain ⟨a, dx, fs, t0, rfl, ha, ty, hn, q⟩ := h
  cases rx
  obtain ⟨od, J⟩ := inst_at I ha
  obtain ⟨m, fr⟩ := I.fr
  obtain ⟨Ph, Z, p, hx⟩ := kit_of I ry ty
  refine PySem.W.cmp_K (op := .Eq) room.units0 fr I.ok.mod.kin J (Z.ty _ _ I.kIn p) hn M.at_ M.fn ?_
  exact wpAny_mono (Runs.of ok room hb pass0 pins σ H s Q [.ref a, v] [.ref a, y] I (.cons rfl (.cons ry .nil)) q) (fun _ _ z => ep_back z) fun _ _ z => z
def rStrO (C : Addr) (sp : Sp) : List V → Hp → VK → Prop := fun xs H Q => ∃ a dx fs, xs = [.ref a] ∧ H a = some (.ins C dx fs) ∧ sp [.ref a] H (fun v H' => ∃ y, v = .str y ∧ Q (.str y) H') E0
theorem call_strO (c : MetC X.prog X.w X.K X.mg X.base C "__str__" k ps sp) (room : Room (k + 2) X.A) : CallR X (.type "str") (rStrO C sp) := by
  obtain ⟨f, fd, ok, M, hb⟩ := c.ex
  intro pins s σ H xs us Q I r h
  obtain ⟨a, dx, fs, rfl, ha, q⟩ := h
  rw [Vals.ref1 r]
  obtain ⟨od, J⟩ := inst_at I ha
  refine PySem.W.kso_call (by have := room.units; show X.A.units + 1 + 1 < cLine; omega) I.kIn J M.at_ M.fn ?_
  have len : [Value.ref a].length = ps.length := ok.len _ _ _ _ q
  have ran := ok.run X.A.in1.in1 X.stack s H ⟨[.ref a], []⟩ [Value.ref a] [V.ref a] _ E0 room.in1.in1 I.env0.in1.in1 (hb s [.ref a] I.kIn len) (.cons rfl .nil) q
  refine wpAny_call (codeAny_mono ran ?_)
  intro r s' h
  match r, h with
  | .error e, h => exact pass0 pins σ H s e s' I h
  | .ok (.ret u), h =>
    obtain ⟨v, H', I', rv, y, rfl, q'⟩ := I.after h
    obtain ⟨tk, rfl⟩ := rv
    exact ⟨.str y, H', I', ⟨tk, rfl⟩, q'⟩
  | .ok .next, h => exact False.elim h
  | .ok .brk, h => exact False.elim h
  | .ok .cont, h => exact False.elim h
end


end My
namespace My
open PySem PySem.Spec PyProof.Rows L2 TL
/-! ### how often a text stands in a list; rows by order; repr with a dict at the end -/
def eqs (k : Str) (v : Value) : Bool := match v with
  | .str n _ => n.cps.toList == k.cps.toList
  | _ => false
theorem eqs_gives {k : Str} {t : Tok} : ∀ {ns : List Str} {us : List Value}, Vals (ns.map V.str) us → ∀ y ∈ us, MeetsSeq.EqGives y (.str k t) (eqs k y)
  | [], _, h => fun y hy => by
    cases h
    cases hy
  | n :: ns, _, h => fun y hy => by
    cases h with
    | cons h1 h2 =>
      rcases List.mem_cons.mp hy with e | e
      · rw [e]
        obtain ⟨u, rfl⟩ := h1
        exact SeqRoads2.EqGives.str n k u t
      · exact eqs_gives h2 y e
theorem str_ext {a b : Str} (h : a.cps.toList = b.cps.toList) : a = b := by
  cases a with
  | mk a => cases b with
    | mk b => exact congrArg Str.mk (Array.toList_inj.mp h)
theorem eqs_count {k : Str} : ∀ {ns : List Str} {us : List Value}, Vals (ns.map V.str) us → us.countP (eqs k) = ns.countP fun n => decide (n = k)
  | [], _, h => by
    cases h
    rfl
  | n :: ns, _, h => by
    cases h with
    | cons h1 h2 =>
      obtain ⟨u, rfl⟩ := h1
      rw [List.countP_cons, List.countP_cons, eqs_count h2]
      have e : eqs k (.str n u) = decide (n = k) := by
        show (n.cps.toList == k.cps.toList) = _
        by_cases z : n = k
        · rw [z, decide_eq_true rfl]
          exact beq_self_eq_true _
        · rw [decide_eq_false z]
          exact beq_eq_false_iff_ne.mpr fun y => z (str_ext y)
      rw [e]
section
variable {X : Cx}
def rCntS (K : PySem.W.Frag) : V → List V → Hp → VK → Prop := fun x xs H Q => ∃ (p : Addr) (ns : List Str) (k : Str), x = .ref p ∧ xs = [.str k] ∧ SqL K H p (ns.map V.str) ∧ Q (.int ((ns.countP fun n => decide (n = k) : Nat) : Int)) H
theorem mt_lcountS : MtR X "list.count" (rCntS X.K) := by
  intro pins s σ H x xs v us Q I rx rxs h
  obtain ⟨p, ns, k, rfl, rfl, hs, q⟩ := h
  cases rx
  obtain ⟨u, rfl, ru⟩ := rxs.one
  obtain ⟨t, rfl⟩ := ru
  obtain ⟨its, rv, ⟨⟨cls, dd, data, sl⟩, n, ho, hc, hdn, hd⟩, hlen⟩ := I.list hs
  simp only at hc hd
  subst hc hd
  refine call_meets PySem.F.slot_list_count ⟨_, ho, rfl⟩ PySem.F.entry_list_count (PySem.F.args_list_count_2 _ _)
    (SeqAt.list_countAt p its.toArray n dd sl (.str k t) (eqs k)) ⟨ho, fun y hy => (eqs_gives rv y (by simpa using hy)).at _ _, ?_⟩
  have ec : its.toArray.toList.countP (eqs k) = ns.countP fun n => decide (n = k) := eqs_count rv
  refine ⟨.int ((ns.countP fun n => decide (n = k) : Nat) : Int), H, I.tok _, ⟨s.toks, ?_⟩, q⟩
  show Value.int ((its.toArray.toList.countP (eqs k) : Nat) : Int) s.toks = Value.int ((ns.countP fun n => decide (n = k) : Nat) : Int) s.toks
  rw [ec]
/-- a < b of rows -/
def rLtD (K : PySem.W.Frag) : R2 := fun x y H Q => ∃ d e, Dp K H x d ∧ Dp K H y e ∧ PySem.W.alike d e = true ∧ d ≠ .none ∧ d.depth ≤ 60 ∧ Q (.bl (PySem.W.dataLt d e)) H
theorem op_ltD (hu : X.A.units + 64 < cLine) : OpR X (compareOp .Lt) (rLtD X.K) := by
  intro pins s σ H x y v u Q I rx ry h
  obtain ⟨d, e, hd, he, al, nn, dp, q⟩ := h
  obtain ⟨as, ra⟩ := Dp.reads I d x v hd rx
  obtain ⟨bs, rb⟩ := Dp.reads I e y u he ry
  exact PySem.W.lt_data ra rb al nn (by have := Nat.min_le_left d.depth e.depth; omega) ⟨.bl (PySem.W.dataLt d e), H, I, rfl, q⟩
/-- repr of a list whose last item is a dict, all its other items without dicts -/
def kD : Key → PyData
  | .inl i => .int i
  | .inr x => .str x
mutual
def noLD : PyData → Bool
  | .none => true
  | .bool _ => true
  | .int _ => true
  | .str _ => true
  | .list _ => false
  | .tuple ds => noLDs ds
  | .dict _ => false
def noLDs : List PyData → Bool
  | [] => true
  | d :: ds => noLD d && noLDs ds
end
mutual
theorem reads_noLD {h : Heap} : ∀ {d : PyData} {u : Value} {as : List Addr}, noLD d = true → Reads h u d as → as = []
  | .none, _, _, _, h => by
    cases h
    rfl
  | .bool _, _, _, _, h => by
    cases h
    rfl
  | .int _, _, _, _, h => by
    cases h
    rfl
  | .str _, _, _, _, h => by
    cases h
    rfl
  | .list ds, _, _, hd, _ => by
    rw [noLD] at hd
    cases hd
  | .tuple ds, _, _, hd, h => by
    cases h with
    | tuple h1 h2 h3 h4 =>
      rw [noLD] at hd
      exact readsAll_noLD hd h4
  | .dict _, _, _, hd, _ => by
    rw [noLD] at hd
    cases hd
theorem readsAll_noLD {h : Heap} : ∀ {ds : List PyData} {us : List Value} {as : List Addr}, noLDs ds = true → ReadsAll h us ds as → as = []
  | [], _, _, _, h => by
    cases h
    rfl
  | d :: ds, _, _, hd, h => by
    cases h with
    | cons h1 h2 =>
      rw [noLDs] at hd
      obtain ⟨d1, d2⟩ := Bool.and_eq_true_iff.mp hd
      rw [reads_noLD d1 h1, readsAll_noLD d2 h2]
      rfl
end
/-- a new list is not sys.modules -/
def tLstB (t : TA) : TE := fun σ H Q => t σ H fun xs H1 => xs.length ≤ sizeLine ∧ ∀ p, H1 p = none → p ≠ sysModules → Q (.ref p) (upd H1 p (.lst xs))
theorem pe_lstB {es : List Expr} {t : TA} {pos : Pos} (h : PA X es t) : PE X (.List es pos) (tLstB t) := by
  refine ⟨fun pins s σ H Q I hq => ?_⟩
  refine wpAny_List_spliced (thn (h.run pos pins s σ H _ I hq) fun us s1 ⟨xs, H1, I1, r, z, q⟩ => ⟨by rw [← r.length]; exact z, ?_⟩)
  have hf : H1 s1.heap.objs.size = none := I1.hok.fresh (Nat.le_refl _)
  refine ⟨.ref s1.heap.objs.size, upd H1 s1.heap.objs.size (.lst xs), I1.laid (t' := s1.toks) (fun b u e => Heap.get?_push_of_some _ e) (Nat.le_refl _) ?_, rfl, q _ hf (Nat.ne_of_gt I1.big)⟩
  exact ⟨z, us, 0, r, Heap.get?_push_size _ rfl⟩
/-- list + list, the new one is not sys.modules -/
def rCatB : R2 := fun x y H Q => ∃ l b xs zs, x = .ref l ∧ y = .ref b ∧ H l = some (.lst xs) ∧ H b = some (.lst zs) ∧ xs.length + zs.length ≤ sizeLine ∧ ∀ p, H p = none → p ≠ sysModules → Q (.ref p) (upd H p (.lst (xs ++ zs)))
theorem op_catB : OpR X (binaryOp .Add) rCatB := by
  intro pins s σ H x y v u Q I rx ry h
  obtain ⟨l, b, xs, zs, rfl, rfl, hH, hB, hz, q⟩ := h
  cases rx
  cases ry
  obtain ⟨z, its, n, r, hl, e⟩ := I.lstM hH
  obtain ⟨z2, its2, n2, r2, hl2, e2⟩ := I.lstM hB
  refine PySem.P.add_list e e2 ?_ (by rw [List.size_toArray, List.size_toArray]; omega)
  have ea : its.toArray ++ its2.toArray = (its ++ its2).toArray := by simp
  rw [ea]
  exact ⟨.ref _, _, I.lnew (t' := s.toks) (r.append r2) (by rw [List.length_append]; omega), rfl, q _ I.fresh (Nat.ne_of_gt I.big)⟩
end
section
variable {X : Cx}
theorem kd_read {h : Heap} (k : Key) (key : Value) (e : keyIs k key = true) : Reads h key (kD k) [] := by
  rcases keyIs_shape e with ⟨i, t, rfl, rfl⟩ | ⟨x, t, rfl, rfl⟩
  · exact Reads.int i t
  · exact Reads.str x t
theorem pairs_read {h : Heap} : ∀ {kvs : List (Key × Int)} {vs : List (Key × Value)}, KV (kvs.map fun p => (p.1, V.int p.2)) vs → PyProof.V.PairsRead h kD vs (kvs.map fun p => (kD p.1, PyData.int p.2)) []
  | [], _, r => by
    cases r
    exact .nil
  | (k, i) :: kvs, _, r => by
    cases r with
    | @cons _ q _ _ h1 h2 =>
      obtain ⟨e1, u, e2⟩ := h1
      obtain ⟨key, v⟩ := q
      have e1 : k = key := e1
      have e2 : v = .int i u := e2
      subst e1
      subst e2
      exact .cons (as := []) (Reads.int i u) (pairs_read h2)
theorem readsAll_app {h : Heap} : ∀ {us ws : List Value} {ds es : List PyData} {as bs : List Addr}, ReadsAll h us ds as → ReadsAll h ws es bs → ReadsAll h (us ++ ws) (ds ++ es) (as ++ bs)
  | _, _, _, _, _, _, .nil, k => k
  | _, _, _, _, _, _, .cons h1 h2, k => by
    rw [List.append_assoc]
    exact .cons h1 (readsAll_app h2 k)
theorem call_repr_lastD (hG : X.A.guards = some []) (hu : X.A.units + 64 < cLine) : CallR X (.builtin "repr") (fun xs H Q => ∃ (p d : Addr) (ys : List V) (ds : List PyData) (kvs : List (Key × Int)), xs = [.ref p] ∧ p ≠ sysModules ∧ SqL X.K H p (ys ++ [.ref d]) ∧ DpAll X.K H ys ds ∧ H d = some (.dK (kvs.map fun q => (q.1, V.int q.2))) ∧
    (PyData.list (ds ++ [.dict (kvs.map fun q => (kD q.1, PyData.int q.2))])).showable = true ∧ noLDs ds = true ∧ (PyData.list (ds ++ [.dict (kvs.map fun q => (kD q.1, PyData.int q.2))])).depth ≤ 20 ∧ (PyData.list (ds ++ [.dict (kvs.map fun q => (kD q.1, PyData.int q.2))])).shown.length ≤ sizeLine ∧ Q (.str (PyData.list (ds ++ [.dict (kvs.map fun q => (kD q.1, PyData.int q.2))])).shown) H) := by
  intro pins s σ H xs us Q I r h
  obtain ⟨p, d, ys, ds, kvs, rfl, hps, hp, hy, hd, h1, h2, h3, h4, q⟩ := h
  obtain ⟨u, rfl, r1⟩ := vals1 r
  cases r1
  obtain ⟨its, rv, ⟨o, n, ho, hc, hdn, hdt⟩, hz⟩ := I.list hp
  obtain ⟨ws, zs, rfl, r2, r3⟩ : ∃ ws zs, its = ws ++ zs ∧ Vals ys ws ∧ Vals [V.ref d] zs := by
    clear hp ho hdt hz hy
    induction ys generalizing its with
    | nil => exact ⟨[], its, rfl, .nil, rv⟩
    | cons y ys ih =>
      cases rv with
      | cons a b =>
        obtain ⟨ws, zs, rfl, c1, c2⟩ := ih _ b
        exact ⟨_ :: ws, zs, rfl, .cons a c1, c2⟩
  obtain ⟨as, ra⟩ := Dp.readsAll I ds ys ws hy r2
  obtain ⟨z, rfl, r4⟩ := vals1 r3
  cases r4
  obtain ⟨hk, hne, vs, rel, dd⟩ := dk_of I.hok hd
  have rd : Reads s.heap (.ref d) (.dict (kvs.map fun q => (kD q.1, PyData.int q.2))) (d :: []) := PyProof.V.reads_dictOf kd_read dd (pairs_read rel)
  have all := readsAll_app ra (.cons rd .nil)
  have whole : Reads s.heap (.ref p) (.list (ds ++ [.dict (kvs.map fun q => (kD q.1, PyData.int q.2))])) _ := Reads.list ho hc hdt all
  refine repr_of_reads' (h₀ := s.heap) whole h1 (fun _ => ?_) hG (by omega) (fun _ _ e => e) (fun h' u tk k => ⟨.str (PyData.list (ds ++ [.dict (kvs.map fun q => (kD q.1, PyData.int q.2))])).shown, H, I.kept k, ⟨u, rfl⟩, q⟩) h4
  intro z
  rcases List.mem_cons.mp z with z | z
  · exact hps z.symm
  · rcases List.mem_append.mp z with z | z
    · rw [readsAll_noLD h2 ra] at z
      cases z
    · have z : sysModules ∈ ([d] : List Addr) := by simpa using z
      have z := List.mem_singleton.mp z
      rw [z] at hne
      exact absurd hne (by simp)
end


end My
namespace My
open PySem PySem.Spec PyProof.Rows L2 TL
/-! ### own exceptions over any built-in one -/
/-- a built-in exception's __init__ -/
structure InitF (B initId : String) : Prop where
  slot : Slot B "__init__" initId
  entry : entryFor table initId = some Builtin.«BaseException.__init__»
  split : splitId initId = some (B, "__init__")
  kind : builtinKind initId = some .slot
  row : Manifest.signature? initId = some ⟨.positional, "*", B, .self, [⟨"args", .varPos, false⟩]⟩
  noStar : (B != "*") = true
theorem initF_of {B n i : String} {m : List Value} (F : ExcBaseFacts B n i m) : InitF B i := ⟨F.init, F.initEntry, F.initSplit, F.initKind, F.initRow, F.noStar⟩
theorem initF_KeyError : InitF "KeyError" "KeyError.__init__" where
  slot := .of (owner := "KeyError") (n := "__init__") (by rw [typeLookup_type, builtinLookup_eq_fast]; kernel_rfl) (by decide +kernel) (by decide +kernel) (by decide +kernel)
    (by first | exact .inl (by decide +kernel) | exact .inr (by decide +kernel)) (by rw [isSubtype_type]; kernel_rfl)
  entry := entryFor_alias (id' := "BaseException.__init__") (by rw [fastTable_eq_tree]; kernel_rfl) (by first | rfl | decide +kernel) (by decide +kernel) (by rw [fastTable_eq_tree]; kernel_rfl)
  split := by kernel_rfl
  kind := by kernel_rfl
  row := by kernel_rfl
  noStar := by decide +kernel
theorem store_KeyError : StoreFacts "KeyError" [.type "KeyError", .type "LookupError", .type "Exception", .type "BaseException", .type "object"] "object.__setattr__" "object" where
  mro := by kernel_rfl
  slot := .of (owner := "object") (n := "__setattr__") (by rw [typeLookup_type, builtinLookup_eq_fast]; kernel_rfl) (by decide +kernel) (by decide +kernel) (by decide +kernel)
    (by first | exact .inl (by decide +kernel) | exact .inr (by decide +kernel)) (by rw [isSubtype_type]; kernel_rfl)
  entry := PySem.F.entry_object_sa
  kind := by decide +kernel
  split := by decide +kernel
  hasOwner := by decide +kernel
  args := fun a b c => by unfold argsOk; kernel_rfl
  passes := fun self => by kernel_rfl
/-- own exceptions over the built-in B: made by N's __new__ -/
structure ExB (B newId initId : String) (bmB : List Value) : Prop where
  N : ∃ N i0 bm0, ExcBaseFacts N newId i0 bm0 ∧ bmB.contains (.type N) = true
  I : InitF B initId
  S : StoreFacts B bmB "object.__setattr__" "object"
  hB : bmB.contains (.type B) = true
  hA : bmB.contains (.type "AttributeError") = false
  hE : bmB.contains (.type "NameError") = false
theorem exB_ValueError : ExB "ValueError" "ValueError.__new__" "ValueError.__init__" [.type "ValueError", .type "Exception", .type "BaseException", .type "object"] := ⟨⟨_, _, _, PySem.F.excBase_ValueError, by decide +kernel⟩, initF_of PySem.F.excBase_ValueError, PySem.F.store_ValueError, by decide +kernel, by decide +kernel, by decide +kernel⟩
theorem exB_LookupError : ExB "LookupError" "LookupError.__new__" "LookupError.__init__" [.type "LookupError", .type "Exception", .type "BaseException", .type "object"] := ⟨⟨_, _, _, PySem.F.excBase_LookupError, by decide +kernel⟩, initF_of PySem.F.excBase_LookupError, PySem.F.store_LookupError, by decide +kernel, by decide +kernel, by decide +kernel⟩
theorem exB_IndexError : ExB "IndexError" "IndexError.__new__" "IndexError.__init__" [.type "IndexError", .type "LookupError", .type "Exception", .type "BaseException", .type "object"] := ⟨⟨_, _, _, PySem.F.excBase_IndexError, by decide +kernel⟩, initF_of PySem.F.excBase_IndexError, PySem.F.store_IndexError, by decide +kernel, by decide +kernel, by decide +kernel⟩
theorem exB_OverflowError : ExB "OverflowError" "OverflowError.__new__" "OverflowError.__init__" [.type "OverflowError", .type "ArithmeticError", .type "Exception", .type "BaseException", .type "object"] := ⟨⟨_, _, _, PySem.F.excBase_OverflowError, by decide +kernel⟩, initF_of PySem.F.excBase_OverflowError, PySem.F.store_OverflowError, by decide +kernel, by decide +kernel, by decide +kernel⟩
theorem exB_ArithmeticError : ExB "ArithmeticError" "ArithmeticError.__new__" "ArithmeticError.__init__" [.type "ArithmeticError", .type "Exception", .type "BaseException", .type "object"] := ⟨⟨_, _, _, PySem.F.excBase_ArithmeticError, by decide +kernel⟩, initF_of PySem.F.excBase_ArithmeticError, PySem.F.store_ArithmeticError, by decide +kernel, by decide +kernel, by decide +kernel⟩
theorem exB_RuntimeError : ExB "RuntimeError" "RuntimeError.__new__" "RuntimeError.__init__" [.type "RuntimeError", .type "Exception", .type "BaseException", .type "object"] := ⟨⟨_, _, _, PySem.F.excBase_RuntimeError, by decide +kernel⟩, initF_of PySem.F.excBase_RuntimeError, PySem.F.store_RuntimeError, by decide +kernel, by decide +kernel, by decide +kernel⟩
theorem exB_KeyError : ExB "KeyError" "LookupError.__new__" "KeyError.__init__" [.type "KeyError", .type "LookupError", .type "Exception", .type "BaseException", .type "object"] := ⟨⟨_, _, _, PySem.F.excBase_LookupError, by decide +kernel⟩, initF_KeyError, store_KeyError, by decide +kernel, by decide +kernel, by decide +kernel⟩
/-- what the written part says of an own exception class at C over the built-in one B -/
structure OexB (K : PySem.W.Frag) (C : Addr) (initId : String) : Prop where
  b : ∃ B newId bmB, ExB B newId initId bmB ∧ PySem.W.excInitIn K C bmB newId = true ∧ PySem.W.excOver K C bmB = true
  hd : PySem.W.hasDictIn K C = true
  sa : PySem.W.findIn K (.ref C) "__setattr__" = some (some (.builtin "object.__setattr__"))
  exC : PySem.W.subIn K (.ref C) (.type "BaseException") = some true
  tyC : PySem.W.typeIn K (.ref C) = some (.type "type")
  kC : PySem.W.keepIn K (.ref C) = true
  ga : PySem.W.findIn K (.ref C) "__getattribute__" = some (some (.builtin "BaseException.__getattribute__"))
  gg : PySem.W.findIn K (.ref C) "__getattr__" = some none
theorem OexB.xf {K : PySem.W.Frag} {C : Addr} {i : String} (h : OexB K C i) : XfC K C := ⟨h.ga, h.gg, h.exC, h.hd⟩


end My
namespace My
open PySem PySem.Spec PyProof.Rows L2 TL
/-! ### C(..), C an own exception class with its own __init__, over any built-in one -/
section
open PySem.HandSPX Builtin.ObjectAttr
variable {prog : Program} {w : World} {A : Around} {E : Value → Shared → Prop} {R : Result → Shared → Prop} {h : Heap} {g : Array GenState} {d : Drawn} {t : Nat} {os : OsState}
variable {nm q : Str} {C N : Addr} {bs bm bm0 : List Value} {hdct : Bool} {sn : List Str} {sub : List Value} {ab : Bool} {col : Option Bool} {dd : Option Addr} {k0 k1 k2 k3 k5 : Option Value} {B newId initId i0 : String}
theorem nw_check {M : Model} (F : ExcBaseFacts B newId i0 bm0) (hB : bm.contains (.type B) = true) {rest : List Value} {Q : Unit → Shared → Prop}
    (hC : h.get? C = some (excClassObj nm q C N bs bm hdct sn sub ab col dd k0 k1 k2 k3 k5 newId)) (hq : Q () ⟨h, g, d, t, os⟩) : wpAny M A (checkBuiltinCall newId ⟨.ref C :: rest, []⟩) Q E ⟨h, g, d, t, os⟩ := by
  have c1 : (Value.ref C :: bm).contains (.type B) = true := by rw [List.contains_cons, hB, Bool.or_true]
  have c2 := F.noStar
  simp only [checkBuiltinCall, F.newKind, F.newSplit, F.newRow]
  repeat (first | refine wpAny_loadPart_at hC ?_ | (refine wpAny_isSubtype_exc hC ?_; rw [c1]) | refine wpAny_staticBase_exc hC ?_ | refine wpAny_madeBy_exc hC ?_ | simp only [bne_self_eq_false, Bool.false_eq_true, if_false] | wp_step)
  exact hq
theorem nw_make (F : ExcBaseFacts B newId i0 bm0) (hB : bm.contains (.type B) = true) (hA : bm.contains (.type "AttributeError") = false) (hN : bm.contains (.type "NameError") = false) {rest : List Value}
    (hC : h.get? C = some (excClassObj nm q C N bs bm hdct sn sub ab col dd k0 k1 k2 k3 k5 newId)) (hr : rest.length ≤ sizeLine)
    (hq : R (.ok (.ret (.ref (h.objs.size + 1)))) ⟨(h.push (PySem.W.kdv_tup rest)).push (excO C h.objs.size), g, d, t, os⟩) :
    codeAny (model prog w) A (.builtin newId ⟨.ref C :: rest, []⟩) R ⟨h, g, d, t, os⟩ := by
  have c0 := F.ends
  have c1 : (Value.ref C :: bm).contains (.type B) = true := by rw [List.contains_cons, hB, Bool.or_true]
  have c2 : (Value.ref C :: bm).contains (.type "AttributeError") = false := by rw [List.contains_cons, hA]; rfl
  have c3 : (Value.ref C :: bm).contains (.type "NameError") = false := by rw [List.contains_cons, hN]; rfl
  refine codeAny_builtinAt F.entry ?_
  unfold Builtin.«BaseException.__new__»
  refine PySem.wpAt_bind ?_
  show PySem.wpAt _ _ _ (stack >>= _) _ _ _
  refine PySem.wpAt_bind (PySem.wpAt_stack fun p below => PySem.wpAt_of_wpAny ?_)
  wp_walk
  refine PySem.wpAt_of_wpAny ?_
  rw [F.owner]
  repeat (first | with_reducible refine wpAny_madeHere_exc F.canon hC ?_ | with_reducible refine wpAny_loadPart_at hC ?_ | (with_reducible refine wpAny_isSubtype_exc hC ?_; first | rw [c1] | rw [c2] | rw [c3]) | wp_step)
  show R _ _
  rw [Heap.size_push]
  exact hq
theorem nw_type (F : ExcBaseFacts B newId i0 bm0) (hB : bm.contains (.type B) = true) (hA : bm.contains (.type "AttributeError") = false) (hN : bm.contains (.type "NameError") = false) {rest : List Value} {fI : Addr} {Q : Fin → Shared → Prop}
    (hC : h.get? C = some (excClassObj nm q C N bs bm hdct sn sub ab col dd k0 k1 k2 k3 k5 newId))
    (hi : PySem.W.Looks (model prog w) h (typeLookup (.ref C) "__init__") (some (.ref fI))) (hb : ∀ self, PySem.W.Looks (model prog w) h (bindSpecial (.ref fI) self) (.ref fI, [self])) (hr : rest.length ≤ sizeLine)
    (hq : codeAny (model prog w) A (.call (.ref fI) ⟨.ref (h.objs.size + 1) :: rest, []⟩)
      (fun r s' => match r with | .ok (.ret v) => v = .none ∧ Q (.done (.ret (.ref (h.objs.size + 1)))) s' | .ok _ => False | .error e => E e s')
      ⟨(h.push (PySem.W.kdv_tup rest)).push (excO C h.objs.size), g, d, t, os⟩) :
    wpAny (model prog w) A (Builtin.«type.__call__» ⟨.ref C :: rest, []⟩) Q E ⟨h, g, d, t, os⟩ := by
  repeat (first | with_reducible refine wpAny_loadPart_at hC ?_ | with_reducible refine wpAny_madeBy_exc hC ?_ | wp_step)
  refine codeAny_call_builtin_code (Code.quiet_builtin _ F.quiet) (nw_check F hB hC ?_)
  refine nw_make F hB hA hN hC hr ?_
  show wpAny _ _ _ _ _ _
  have k : ∀ b o, h.get? b = some o → ((h.push (PySem.W.kdv_tup rest)).push (excO C h.objs.size)).get? b = some o := fun b o e => Heap.get?_push_of_some _ (Heap.get?_push_of_some _ e)
  have hC1 := k _ _ hC
  have hg : ((h.push (PySem.W.kdv_tup rest)).push (excO C h.objs.size)).get? (h.objs.size + 1) = some (excO C h.objs.size) := by heap_get
  have c1 : (Value.ref C :: bm).contains (.ref C) = true := by simp
  have i1 := hi.keeps k
  have b1 := (hb (.ref (h.objs.size + 1))).keeps k
  unfold isInstance
  repeat (first | with_reducible refine wpAny_loadPart_at hg ?_ | (with_reducible refine wpAny_isSubtype_exc hC1 ?_; rw [c1]) | wp_step)
  show wpAny _ _ (typeLookup (.ref C) _) _ _ _
  refine i1.at ?_
  refine wpAny_holding (wpAny_bind (b1.at ?_))
  refine wpAny_bind (wpAny_call (codeAny_mono hq fun r s' z => ?_))
  rcases r with e | (v | _ | _ | _) <;> first | exact z | exact z.elim | skip
  obtain ⟨rfl, z⟩ := z
  first
    | exact wpAny_pure (wpAny_pure z)
    | (wp_walk; exact z)
theorem nw_call (F : ExcBaseFacts B newId i0 bm0) (hB : bm.contains (.type B) = true) (hA : bm.contains (.type "AttributeError") = false) (hN : bm.contains (.type "NameError") = false) {rest : List Value} {fI : Addr}
    (hC : h.get? C = some (excClassObj nm q C N bs bm hdct sn sub ab col dd k0 k1 k2 k3 k5 newId))
    (hi : PySem.W.Looks (model prog w) h (typeLookup (.ref C) "__init__") (some (.ref fI))) (hb : ∀ self, PySem.W.Looks (model prog w) h (bindSpecial (.ref fI) self) (.ref fI, [self])) (hr : rest.length ≤ sizeLine)
    (hq : codeAny (model prog w) (A.under (.builtin "type.__call__" ⟨.ref C :: rest, []⟩)) (.call (.ref fI) ⟨.ref (h.objs.size + 1) :: rest, []⟩) (PySem.W.InitBack (h.objs.size + 1) R)
      ⟨(h.push (PySem.W.kdv_tup rest)).push (excO C h.objs.size), g, d, t, os⟩) :
    codeAny (model prog w) A (.call (.ref C) ⟨rest, []⟩) R ⟨h, g, d, t, os⟩ := by
  have f1 := tc_lookup
  have f2 := tc_bind (.ref C)
  have hTy : (⟨h, g, d, t, os⟩ : Shared).TypeIs (.ref C) "type" := ⟨_, hC, rfl⟩
  refine codeAny_of_tree ?_
  show wpAny _ _ (callAny (.ref C) _) _ _ _
  repeat (any_goals (first | assumption | with_reducible refine wpAny_loadPart_at hC ?_ | wp_step))
  refine ⟨rfl, ?_⟩
  refine codeAny_call_builtin_at (Code.quiet_builtin _ (by decide +kernel)) entry_typeCall (wpAny_check_type_call_sub hC (nw_type F hB hA hN hC hi hb hr ?_))
  refine codeAny_mono hq fun r s' z => ?_
  rcases r with e | (v | _ | _ | _) <;> exact z
theorem in_check {M : Model} (F : InitF B initId) (hB : bm.contains (.type B) = true) {e : Addr} {oe : Obj} {rest : List Value} {Q : Unit → Shared → Prop}
    (hC : h.get? C = some (excClassObj nm q C N bs bm hdct sn sub ab col dd k0 k1 k2 k3 k5 newId)) (he : h.get? e = some oe) (hcls : oe.cls = .ref C) (hq : Q () ⟨h, g, d, t, os⟩) :
    wpAny M A (checkBuiltinCall initId ⟨.ref e :: rest, []⟩) Q E ⟨h, g, d, t, os⟩ := by
  have c1 : (Value.ref C :: bm).contains (.type B) = true := by rw [List.contains_cons, hB, Bool.or_true]
  have c2 := F.noStar
  simp only [checkBuiltinCall, F.kind, F.split, F.row]
  repeat (first | (with_reducible refine wpAny_loadPart_at he ?_; rw [hcls]) | with_reducible refine wpAny_loadPart_at hC ?_ | (with_reducible refine wpAny_isSubtype_exc hC ?_; rw [c1]) | wp_step)
  refine wpAny_onRaise ?_
  rw [show ∀ (a b : String) (n : Nat), Bind.check ⟨.positional, "*", B, .self, [⟨"args", .varPos, false⟩]⟩ a b n (List.map (fun x => x.fst) ({ pos := Value.ref e :: rest } : Args).kw) = pure () from
    fun a b n => check_star_args _ _ _ _ _ _]
  exact wpAny_pure hq
/-- B.__init__(e, ..): the args are laid anew -/
theorem in_base (F : InitF B initId) (hB : bm.contains (.type B) = true) {e t0 : Addr} {rest : List Value}
    (hC : h.get? C = some (excClassObj nm q C N bs bm hdct sn sub ab col dd k0 k1 k2 k3 k5 newId)) (he : h.get? e = some (excO C t0)) (hr : rest.length ≤ sizeLine)
    (hq : ∀ h' t1, (∀ b o, b ≠ e → h.get? b = some o → h'.get? b = some o) → h'.get? e = some (excO C t1) → R (.ok (.ret .none)) ⟨h', g, d, t, os⟩) :
    codeAny (model prog w) A (.call (.builtin initId) ⟨.ref e :: rest, []⟩) R ⟨h, g, d, t, os⟩ := by
  refine codeAny_call_builtin F.slot.plain F.entry (in_check F hB hC he rfl ?_)
  wp_walk
  refine hq _ h.objs.size (fun b o hb ho => ?_) ?_
  · rw [Heap.get?_update_other _ _ (Ne.symm hb)]
    exact Heap.get?_push_of_some _ ho
  · rw [Heap.get?_update_self _ (Heap.get?_push_of_some _ he) rfl]
    rfl
/-- self.name = v, where v is the first -/
theorem st_new {K : PySem.W.Frag} {bmB : List Value} {name : Str} {tk : Tok} {v : Value} {x : Addr} {fv : Array Value} (SF : StoreFacts B bmB "object.__setattr__" "object") (X : K.In h) (hx : h.get? x = some { cls := .ref C, data := .fields fv })
    (ho : PySem.W.excOver K C bmB = true) (hh : PySem.W.hasDictIn K C = true) (ha : PySem.W.findIn K (.ref C) name = some none)
    (hq : ∀ h' tk' dx, (∀ b o, b ≠ x → h.get? b = some o → h'.get? b = some o) → h.objs.size ≤ dx → dx ≠ x → h'.get? x = some { cls := .ref C, dict := some dx, data := .fields fv } →
      h'.Ns1 dx (fun y => if y = name then some v else none) → R (.ok (.ret .none)) ⟨h', g, d, tk', os⟩) :
    codeAny (model prog w) A (.call (.builtin "object.__setattr__") ⟨[.ref x, .str name tk, v], []⟩) R ⟨h, g, d, t, os⟩ := by
  refine PySem.W.osa_openX (s := ⟨h, g, d, t, os⟩) (od := none) (r := none) SF X ⟨hx, rfl, rfl, trivial⟩ ho (by unfold PySem.W.takerIn; rw [ha]; rfl) fun b => ?_
  obtain ⟨cd, hc, hd'⟩ := PySem.W.any_some hh
  have hxs : x ≠ h.objs.size := Nat.ne_of_lt (Heap.lt_size hx)
  have hcls : PySem.W.Looks (model prog w) h (classData C) cd := PySem.W.looks_clsIn X hc
  obtain ⟨nm, bs, mro, ns, qn, hd, sn, sb, ab, col, del⟩ := cd
  dsimp only at hd'
  subst hd'
  dsimp only
  unfold storeInOwnDict ownDictForStores
  repeat (first | with_reducible refine store_in_new ?_ ?_ | with_reducible refine wpAny_loadPart_at hx ?_ | with_reducible refine hcls.at ?_ | wp_step)
  · exact ⟨_, #[], _, (Heap.get?_update_ne _ _ _ _ hxs.symm).trans (Heap.get?_push_at rfl rfl), rfl, fun e he => absurd he (by simp), fun _ => rfl⟩
  · intro h' tk' hn' hs
    have hx1 : (h.push { cls := .type "dict", data := .dict #[] }).get? x = some { cls := .ref C, data := .fields fv } := Heap.get?_push_of_some _ hx
    refine hq h' tk' h.objs.size (fun b o hb ho => ?_) (Nat.le_refl _) hxs.symm ?_ hn'
    · exact (hs.2 b (Nat.ne_of_lt (Heap.lt_size ho))).trans ((Heap.get?_update_ne _ _ _ _ hb).trans (Heap.get?_push_of_some _ ho))
    · exact (hs.2 x hxs).trans (Heap.get?_update_self _ hx1 rfl)
end


end My
namespace My
open PySem PySem.Spec PyProof.Rows L2 TL
/-! ### exceptions as values: rules -/
section
variable {X : Cx} {pins : List (Addr × Obj)} {σ : L2.St} {H : Hp} {s : Shared} {a C dx : Addr} {i : String} {f : Str} {y : V} {u : Value} {fs : List (Str × V)} {Q : Unit → Shared → Prop} {E : Value → Shared → Prop} {A : Around}
/-- self.f = y, the first one -/
theorem osb_new (T : OexB X.K C i) (I : Inv X pins σ H s) (e : H a = some (exo a C none)) (hno : PySem.W.findIn X.K (.ref C) f = some none) (ry : RelV y u)
    (h : ∀ dx s', H dx = none → dx ≠ a → Inv X pins σ (upd (upd H dx (exd dx [(f, y)])) a (exo a C (some dx))) s' → Q () s') : wpAny (model X.prog X.w) A (setAttr (.ref a) f u) Q E s := by
  obtain ⟨B, newId, bmB, b, ini, ov⟩ := T.b
  obtain ⟨t1, ho⟩ := exo_at I.hok e
  obtain ⟨hp, g, d, t, os⟩ := s
  refine PySem.W.set_plain I.kIn (ox := { cls := .ref C, dict := none, data := .fields #[.ref t1, .none, .none, .none, .bool false, .none] }) (od := none) ⟨ho, rfl, rfl, trivial⟩ T.sa ?_
  refine st_new b.S I.kIn ho ov T.hd hno (fun h' tk' dx k dn dne hx hn => ?_)
  have hnd : H dx = none := I.hok.fresh dn
  have far : ∀ {c : Addr} {o : Obj}, hp.get? c = some o → c ≠ dx := fun {c o} q => Nat.ne_of_lt (Nat.lt_of_lt_of_le (Heap.lt_size q) dn)
  have off : ∀ {c : Addr}, H c = none → c ≠ a := fun {c} n z => by rw [z, e] at n; cases n
  have un : Un X.fs [] H (upd (upd H dx (exd dx [(f, y)])) a (exo a C (some dx))) hp h' := {
    keep := fun c o q n _ _ => k c o (off n) q
    slot := fun c o q n _ _ => ⟨o.slots, k c o (off n) q⟩
    free := fun c o q n _ => by rw [upd_ne (off n), upd_ne (far q)]; exact n
    there := fun c o q _ => by
      by_cases hc : c = a
      · exact ⟨_, by rw [hc]; exact hx⟩
      · exact ⟨o, k c o hc q⟩
    tups := fun c xs q => by rw [upd_ne (at_ne e q exo_tup), upd_ne (ne_of_none q hnd)]; exact q
    frzs := fun c o v q => by rw [upd_ne (at_ne e q exo_frz), upd_ne (ne_of_none q hnd)]; exact q
    tbls := fun c ps q => ⟨#[], by rw [upd_ne (at_ne e q exo_tbl), upd_ne (ne_of_none q hnd), q]; simp⟩ }
  refine h dx _ hnd dne (I.un (t' := tk') un fun c o q => ?_)
  by_cases hc : c = a
  · subst hc
    rw [upd_same] at q
    cases q
    exact exo_ok hx
  rw [upd_ne hc] at q
  by_cases hd : c = dx
  · subst hd
    rw [upd_same] at q
    cases q
    exact exd_ok hn (relO_put (fs := []) ry fun g => True.intro)
  rw [upd_ne hd] at q
  refine (I.hok c o q).stay (fun c' v hh z => k c' v ?_ z) (fun c' hh => by rw [upd_ne (at_ne e hh exo_own), upd_ne (ne_of_none hh hnd)]; exact hh) (fun c' xs hh => by rw [upd_ne (at_ne e hh exo_tup), upd_ne (ne_of_none hh hnd)]; exact hh)
  rcases hh with hh | hh
  · rw [hh]
    exact hc
  · exact at_ne e hh exo_own
/-- B.__init__(self, ..): nothing of it is told -/
theorem ib_ok {us : List Value} {Q : Value → Shared → Prop} (T : OexB X.K C i) (I : Inv X pins σ H s) (e : H a = some (exo a C none)) (hl : us.length ≤ sizeLine) (h : ∀ s', Inv X pins σ H s' → Q .none s') :
    wpAny (model X.prog X.w) A (call (.builtin i) (.ref a :: us)) Q E s := by
  obtain ⟨B, newId, bmB, b, ini, ov⟩ := T.b
  obtain ⟨nm, N', qn, bs, bm, hdct, sn, sub, ab, col, dd, k0, k1, k2, k3, k5, hC, hT⟩ := PySem.W.excInit_of I.kIn ini
  obtain ⟨t1, ho⟩ := exo_at I.hok e
  obtain ⟨hp, g, d, t, os⟩ := s
  refine wpAny_call (in_base b.I (by rw [hT]; exact b.hB) hC ho hl fun h' t2 k hx => ?_)
  have J := I.write (t' := t) (x := a) (e := a) (o := exo a C none) (by rw [e]; exact True.intro) (.inl rfl) k ⟨_, hx⟩ (exo_ok hx)
  rw [show upd H a (exo a C none) = H from funext fun c => by
    by_cases hc : c = a
    · rw [hc, upd_same, e]
    · rw [upd_ne hc]] at J
  exact h _ J
end
/-- B.__init__(self, ..) -/
def tExI (K : PySem.W.Frag) (i : String) (ta : TA) : TE := fun σ H Q => ta σ H fun vs H1 => ∃ (a C : Addr) (ws : List V), vs = .ref a :: ws ∧ ws.length ≤ 1000 ∧ OexB K C i ∧ H1 a = some (exo a C none) ∧ Q .non H1
/-- self.f = e, the exception's first -/
def tOsb (K : PySem.W.Frag) (f : Str) (to te : TE) : TS := fun D σ H => te σ H fun y H1 => to σ H1 fun x H2 => ∃ (a C : Addr) (i : String), x = .ref a ∧ OexB K C i ∧ PySem.W.findIn K (.ref C) f = some none ∧
  H2 a = some (exo a C none) ∧ ∀ dx, H2 dx = none → dx ≠ a → D.nx σ (upd (upd H2 dx (exd dx [(f, y)])) a (exo a C (some dx)))
/-- C(e, ..), C's own __init__ keeping sp, as a value -/
def tMkE (C : Addr) (sp : Sp) (ta : TA) : TE := fun σ H Q => ta σ H fun vs H1 => vs.length ≤ 1000 ∧ ∀ a, H1 a = none → sp (.ref a :: vs) (upd H1 a (exo a C none)) (fun v H2 => v = .non ∧ Q (.ref a) H2) E0
/-- e.f, e an exception -/
def tXv (C : Addr) (f : Str) (te : TE) : TE := fun σ H Q => te σ H fun x H1 => ∃ (a d : Addr) (fs : List (Str × V)) (v : V), x = .ref a ∧ H1 a = some (exo a C (some d)) ∧ H1 d = some (exd d fs) ∧ fs.lookup f = some v ∧ Q v H1
section
variable {X : Cx} {C C0 : Addr} {i T : String} {o e : Expr} {es : List Expr} {to te : TE} {ta : TA} {f x : Str} {p p' p1 p2 pos : Pos} {mc : Value}
theorem pe_exI {pl : Sem Bool} (ho : PE X o (tC (.ty T))) (ht : typeOf (.type T) = pure (.type "type")) (hs : Manifest.isStub T = false) (vV : PySem.W.findCls X.K (.type T) (.type "type") "__init__" = some (.val (.builtin i))) (hh : PySem.W.handedIn (.builtin i) = true) (ha : PA X (e :: es) ta)
    (hc : eval (.Call (.Attribute o "__init__" p2) (e :: es) [] pos) X.env = (do
      let ov ← eval o X.env
      standAt p2.atName
      let (f, first) ← holding [ov] (getMethod ov "__init__" pl)
      callWith pos f first (backTo pos (starEach (e :: es) X.env)) (backToKw pos (keywordEach [] X.env))) := by rfl)
    (he : starEach (e :: es) X.env = (false, eval e X.env) :: starEach es X.env := by rfl) (hpl : (backTo pos (starEach es X.env)).any (·.1) = false := by rfl) :
    PE X (.Call (.Attribute o "__init__" p2) (e :: es) [] pos) (tExI X.K i ta) := by
  refine ⟨fun pins s σ H Q I h => ?_⟩
  refine PySem.W.methodCall_KW (thn (ho.run pins s σ H (fun v H1 => v = .ty T ∧ H1 = H) I ⟨rfl, rfl⟩) fun u s0 ⟨v, H0, I0, r0, ev, eH⟩ => ?_) hc
  subst ev eH
  obtain rfl : u = Value.type T := r0
  obtain ⟨m, fr⟩ := I0.fr
  refine PySem.W.method_type fr I0.ok.mod.kin ht hs vV hh ?_
  refine PyProof.Rows.callWith_method1 (thn (ha.run pos pins _ σ _ _ (I0.tok _) h) fun us s1 ⟨vs, H1, I1, r1, a, C, ws, ev, hl, T, ea, q⟩ => ?_) he hpl
  subst ev
  cases r1 with
  | @cons _ u0 _ ur ra rw' =>
    obtain rfl : u0 = Value.ref a := ra
    have hlen : ur.length ≤ sizeLine := by
      rw [← Paired.length rw', sizeLine_eq]
      omega
    exact ib_ok T I1 ea hlen fun s' J => ⟨.non, H1, J, rfl, q⟩
/-- .. read off an own class -/
theorem pe_exIC {pl : Sem Bool} (ho : PE X o (tC (.ref C0))) (r : ClX.CRead X.K C0 mc) (vV : PySem.W.findCls X.K (.ref C0) mc "__init__" = some (.val (.builtin i))) (hh : PySem.W.handedIn (.builtin i) = true) (ha : PA X (e :: es) ta)
    (hc : eval (.Call (.Attribute o "__init__" p2) (e :: es) [] pos) X.env = (do
      let ov ← eval o X.env
      standAt p2.atName
      let (f, first) ← holding [ov] (getMethod ov "__init__" pl)
      callWith pos f first (backTo pos (starEach (e :: es) X.env)) (backToKw pos (keywordEach [] X.env))) := by rfl)
    (he : starEach (e :: es) X.env = (false, eval e X.env) :: starEach es X.env := by rfl) (hpl : (backTo pos (starEach es X.env)).any (·.1) = false := by rfl) :
    PE X (.Call (.Attribute o "__init__" p2) (e :: es) [] pos) (tExI X.K i ta) := by
  refine ⟨fun pins s σ H Q I h => ?_⟩
  refine PySem.W.methodCall_KW (thn (ho.run pins s σ H (fun v H1 => v = .ref C0 ∧ H1 = H) I ⟨rfl, rfl⟩) fun u s0 ⟨v, H0, I0, r0, ev, eH⟩ => ?_) hc
  subst ev eH
  obtain rfl : u = Value.ref C0 := r0
  refine PySem.W.method_cls I0.kIn r.ga (PySem.W.cls_value I0.kIn r.rd vV hh ?_)
  refine PyProof.Rows.callWith_method1 (thn (ha.run pos pins _ σ _ _ (I0.tok _) h) fun us s1 ⟨vs, H1, I1, r1, a, C, ws, ev, hl, T, ea, q⟩ => ?_) he hpl
  subst ev
  cases r1 with
  | @cons _ u0 _ ur ra rw' =>
    obtain rfl : u0 = Value.ref a := ra
    have hlen : ur.length ≤ sizeLine := by
      rw [← Paired.length rw', sizeLine_eq]
      omega
    exact ib_ok T I1 ea hlen fun s' J => ⟨.non, H1, J, rfl, q⟩
theorem ps_osb (ho : PE X o to) (he : PE X e te) (hs : swapsWith e (some (.Attribute o f p')) pos.line X.env = pure false := by rfl) : PS X (.Assign [.Attribute o f p'] e pos) (tOsb X.K f to te) := by
  refine ⟨fun pins s σ H D I h => ?_⟩
  refine plainObj_wpAny_Assign_Attribute (thn (he.run pins s σ H _ I h) fun v s1 ⟨y, H1, I1, r1, q1⟩ => thn (ho.run pins s1 σ H1 _ I1 q1) fun u s2 ⟨x, H2, I2, r2, a, C, i, ex, T, hno, ea, q⟩ => ?_) hs
  subst ex
  obtain rfl : u = Value.ref a := r2
  exact osb_new T I2 ea hno r1 fun dx s' n ne J => ⟨σ, _, J, q dx n ne⟩
theorem pe_mkE {fI : Addr} {k : Nat} {fd : FuncData} {ps : List Str} {sp : Sp} (T : OexB X.K C i) (iC : PySem.W.findIn X.K (.ref C) "__init__" = some (some (.ref fI))) (tI : PySem.W.typeIn X.K (.ref fI) = some (.type "function"))
    (F1 : FnOkG X.prog X.w X.K X.mg X.base CX0 k fI fd ps sp) (hr : Room (k + 1) X.A) (hG : X.A.guards = some []) (hb : Binds X.K fd ps []) (hg : Gl X x) (hm : X.mg x = some (.ref C)) (ha : PA X (e :: es) ta)
    (hdb : (x == ("__debug__" : Str)) = false := by decide) (he : starEach (e :: es) X.env = (false, eval e X.env) :: starEach es X.env := by rfl) (hpl : (backTo pos (starEach es X.env)).any (·.1) = false := by rfl) :
    PE X (.Call (.Name x p) (e :: es) [] pos) (tMkE C sp ta) := by
  refine ⟨fun pins s σ H Q I h => ?_⟩
  obtain ⟨B, newId, bmB, b, ini, ov⟩ := T.b
  refine wpAny_Call_Name_kw (ld_glob I hg hm ?_ hdb)
  refine PySem.W.callWith_K (h₀ := X.base) I.ok.mod.kin T.kC (thn (ha.run pos pins s σ H _ I h) fun us s1 ⟨vs, H1, I1, r1, hz, q1⟩ => ⟨I1.kIn, ?_⟩) he hpl
  obtain ⟨nm, N', qn, bs, bm, hdct, sn, sub, ab, col, dd, k0, k1, k2, k3, k5, hC, hT⟩ := PySem.W.excInit_of I1.kIn ini
  obtain ⟨N0, i0, bm0, FN, hN⟩ := b.N
  show wpAny _ _ (call (.ref C) us) _ _ _
  obtain ⟨hp, g, dr, tk, os⟩ := s1
  have hsz : hp.objs.size ≤ hp.objs.size + 1 := Nat.le_succ _
  have hn : H1 (hp.objs.size + 1) = none := I1.hok.fresh hsz
  have hq := q1 (hp.objs.size + 1) hn
  have kk : ∀ c o, hp.get? c = some o → ((hp.push (PySem.W.kdv_tup us)).push (PySem.HandSPX.excO C hp.objs.size)).get? c = some o := fun c o e => Heap.get?_push_of_some _ (Heap.get?_push_of_some _ e)
  have hget : ((hp.push (PySem.W.kdv_tup us)).push (PySem.HandSPX.excO C hp.objs.size)).get? (hp.objs.size + 1) = some (PySem.HandSPX.excO C hp.objs.size) := by heap_get
  have I2 : Inv X pins σ (upd H1 (hp.objs.size + 1) (exo (hp.objs.size + 1) C none)) ⟨(hp.push (PySem.W.kdv_tup us)).push (PySem.HandSPX.excO C hp.objs.size), g, dr, tk, os⟩ :=
    I1.laid (t' := tk) (a := hp.objs.size + 1) (o := exo (hp.objs.size + 1) C none) (h' := (hp.push (PySem.W.kdv_tup us)).push (PySem.HandSPX.excO C hp.objs.size)) kk hsz (exo_ok hget)
  have r2 : Vals (V.ref (hp.objs.size + 1) :: vs) (Value.ref (hp.objs.size + 1) :: us) := .cons rfl r1
  have hl : (Value.ref (hp.objs.size + 1) :: us ++ []).length = ps.length := by
    have e := r2.length
    rw [F1.arity _ _ _ _ hq] at e
    rw [List.append_nil]
    exact e.symm
  have hus : us.length ≤ sizeLine := by
    rw [← Paired.length r1, sizeLine_eq]
    omega
  have b2 := hb _ (Value.ref (hp.objs.size + 1) :: us) I2.kIn hl
  rw [List.append_nil] at b2
  refine wpAny_call (nw_call FN (by rw [hT]; exact hN) (by rw [hT]; exact b.hA) (by rw [hT]; exact b.hE) hC (PySem.W.looks_findIn I1.kIn iC) (fun self => PySem.W.bind_fn I1.kIn self tI) hus
    (codeAny_mono (F1.go _ X.stack _ _ ⟨Value.ref (hp.objs.size + 1) :: us, []⟩ (Value.ref (hp.objs.size + 1) :: us) _ _ E0 (hr.make C us []) (by first | exact hG | (unfold Around.under; exact hG) | (unfold Around.under; split <;> exact hG)) (I2.env0.make C us []) b2 r2 hq) fun r s' hq' => ?_))
  cases r with
  | error er => exact pass0 pins σ _ _ er s' I2 hq'
  | ok fl =>
    cases fl with
    | ret u =>
      obtain ⟨v, H', I', rv, ev, q2⟩ := I2.after hq'
      subst ev
      exact ⟨rv, .ref (hp.objs.size + 1), H', I', rfl, q2⟩
    | next => exact False.elim hq'
    | brk => exact False.elim hq'
    | cont => exact False.elim hq'
end


end My
namespace My
open PySem PySem.Spec PyProof.Rows L2 TL
/-! ### exceptions as values: rules, the second part -/
/-- at e: an exception of the class at C, its args at t -/
def exq (e C t : Addr) : HO := .ext fun h => h.get? e = some ({ cls := .ref C, dict := none, data := .fields #[.ref t, .none, .none, .none, .bool false, .none] } : Obj)
theorem exq_ok {P : Program} {w : World} {H : Hp} {h : Heap} {e C t : Addr} (he : h.get? e = some ({ cls := .ref C, dict := none, data := .fields #[.ref t, .none, .none, .none, .bool false, .none] } : Obj)) : ObjOk P w H h e (exq e C t) :=
  ⟨he, ⟨_, he⟩, fun h1 h2 q k => k _ q⟩
theorem exq_at {P : Program} {w : World} {H : Hp} {h : Heap} {e C t : Addr} (hok : HOk P w H h) (he : H e = some (exq e C t)) : h.get? e = some ({ cls := .ref C, dict := none, data := .fields #[.ref t, .none, .none, .none, .bool false, .none] } : Obj) := by
  have z : ObjOk P w H h e (.ext fun h => h.get? e = some ({ cls := .ref C, dict := none, data := .fields #[.ref t, .none, .none, .none, .bool false, .none] } : Obj)) := hok e _ he
  exact z.1
/-- C(x), C without an own __init__, x a text, as a value -/
def tMkA (C : Addr) (te : TE) : TE := fun σ H Q => te σ H fun v H1 => ∃ x, v = .str x ∧ ∀ a t, H1 a = none → H1 t = none → a ≠ t → Q (.ref a) (upd (upd H1 t (.tup [.str x])) a (exq a C t))
/-- an exception of the class at C -/
def IsE (C : Addr) (H : Hp) (v : V) : Prop := ∃ a, v = .ref a ∧ ((∃ t, H a = some (exq a C t)) ∨ ∃ d fs, H a = some (exo a C (some d)) ∧ H d = some (exd d fs))
theorem IsE.same {C : Addr} {H H' : Hp} {v : V} (s : Same H H') (h : IsE C H v) : IsE C H' v := by
  obtain ⟨a, e, h⟩ := h
  rcases h with ⟨x, h⟩ | ⟨d, fs, h1, h2⟩
  · exact ⟨a, e, .inl ⟨x, s _ _ h⟩⟩
  · exact ⟨a, e, .inr ⟨d, fs, s _ _ h1, s _ _ h2⟩⟩
def rIsX (K : PySem.W.Frag) : List V → Hp → VK → Prop := fun xs H Q => ∃ (x c : V) (C : Addr) (u : Value) (b : Bool), xs = [x, c] ∧ IsE C H x ∧ L2.ExcC K C ∧ ClsV c u ∧ PySem.W.kitOne K (.ref C) u = some b ∧ Q (.bl b) H
def rStrE (K : PySem.W.Frag) : List V → Hp → VK → Prop := fun xs H Q => ∃ (a C t : Addr) (x : Str), xs = [.ref a] ∧ H a = some (exq a C t) ∧ H t = some (.tup [.str x]) ∧ PySem.W.findIn K (.ref C) "__str__" = some (some (.builtin "BaseException.__str__")) ∧ PySem.W.subIn K (.ref C) (.type "BaseException") = some true ∧ Q (.str x) H
section
variable {X : Cx} {C : Addr} {e : Expr} {te : TE} {x f : Str} {p pos : Pos}
theorem pe_xv (T : XfC X.K C) (hno : PySem.W.findIn X.K (.ref C) f = some none) (he : PE X e te) (hb : attributeBase e f X.env (eval e X.env) = eval e X.env := by rfl) : PE X (.Attribute e f pos) (tXv C f te) := by
  refine ⟨fun pins s σ H Q I h => ?_⟩
  refine attr_of hb (thn (he.run pins s σ H _ I h) fun u s1 hh => ?_)
  obtain ⟨x, H1, I1, rx, a, dd, fs, v, ex, ea, ed, l, q⟩ := hh
  subst ex
  obtain rfl : u = Value.ref a := rx
  obtain ⟨t1, ho⟩ := exo_at I1.hok ea
  obtain ⟨mA, hns, hr⟩ := exd_at I1.hok ed
  obtain ⟨od, hod, hl⟩ := lookIn_ns hns
  obtain ⟨u, hu, ru⟩ := RelO.some_of (v := v) (o := mA f) (by rw [← l]; exact hr f)
  have J : PySem.W.InstAt s1.heap a { cls := .ref C, dict := some dd, data := .fields #[.ref t1, .none, .none, .none, .bool false, .none] } C (some od) := ⟨ho, rfl, rfl, hod⟩
  exact HandSPX.exc_get I1.kIn J T.ga T.gg T.exC (PySem.W.findObj_own T.hdC hno rfl (by rw [hl, hu])) (handed_of ru) ⟨v, H1, I1.tok _, ru, q⟩
theorem pe_mkA {bmB : List Value} {B newId initId : String} (F : ExcBaseFacts B newId initId bmB) (q : PySem.W.excIn X.K C bmB newId = true) (gC : X.mg x = some (.ref C)) (kC : PySem.W.keepIn X.K (.ref C) = true) (hg : Gl X x)
    (he : PE X e te) (hs : starEach [e] X.env = (false, eval e X.env) :: starEach [] X.env := by rfl) (hdb : (x == ("__debug__" : Str)) = false := by decide) : PE X (.Call (.Name x p) [e] [] pos) (tMkA C te) := by
  refine ⟨fun pins s σ H Q I h => ?_⟩
  refine wpAny_Call_Name_kw (ld_glob I hg gC ?_ hdb)
  refine PySem.W.callWith_K (h₀ := X.base) I.ok.mod.kin kC ?_ hs (by rfl)
  rw [hs]
  show wpAny _ _ (spliced ((false, eval e X.env) :: backTo pos (starEach [] X.env))) _ _ s
  refine Calls.spliced_cons (thn (he.run pins s σ H _ I h) fun u s1 ⟨v, H1, I1, r1, y, ey, q1⟩ => ?_)
  subst ey
  obtain ⟨tk, rfl⟩ := r1
  refine Calls.spliced_nil ⟨I1.kIn, ?_⟩
  show wpAny _ _ (call (.ref C) [.str y tk]) _ _ _
  obtain ⟨bm, N, nm, qn, bs, hdct, sn, sub, ab, col, dd, k0, k1, k2, k3, k5, mN, hC, hN, hni, T⟩ := exc_obj I1.kIn q
  refine wpAny_call_exc_subT F T hC hN hni (fun h' a hm => ?_) (by show 1 ≤ sizeLine; rw [sizeLine_eq]; omega)
  have hn : H1 a = none := I1.hok.gone hm.new
  obtain ⟨t, ht, htn, htt⟩ := hm.there
  have hnt : H1 t = none := I1.hok.gone htn
  have nat : a ≠ t := fun z => by
    rw [z, htt] at ht
    have y := Option.some.inj ht
    cases y
  have un : Un X.fs [] H1 (upd (upd H1 t (.tup [.str y])) a (exq a C t)) s1.heap h' := {
    keep := fun c o q _ _ _ => hm.keeps c o q
    slot := fun c o q _ _ _ => ⟨o.slots, hm.keeps c o q⟩
    free := fun c o q n _ => by
      rw [upd_ne (fun z => by rw [z, hm.new] at q; cases q), upd_ne (fun z => by rw [z, htn] at q; cases q)]
      exact n
    there := fun c o q _ => ⟨o, hm.keeps c o q⟩
    tups := fun c xs q => by rw [upd_ne (ne_of_none q hn), upd_ne (ne_of_none q hnt)]; exact q
    frzs := fun c o v q => by rw [upd_ne (ne_of_none q hn), upd_ne (ne_of_none q hnt)]; exact q
    tbls := fun c ps q => ⟨#[], by rw [upd_ne (ne_of_none q hn), upd_ne (ne_of_none q hnt), q]; simp⟩ }
  refine ⟨.ref a, _, I1.un (t' := s1.toks) un fun c o z => ?_, rfl, q1 a t hn hnt nat⟩
  by_cases hc : c = a
  · subst hc
    rw [upd_same] at z
    cases z
    exact exq_ok ht
  rw [upd_ne hc] at z
  by_cases hd : c = t
  · subst hd
    rw [upd_same] at z
    cases z
    exact ⟨by show 1 ≤ sizeLine; decide, [.str y tk], .cons ⟨tk, rfl⟩ .nil, _, htt, rfl, _, rfl⟩
  rw [upd_ne hd] at z
  exact (I1.hok c o z).stay (fun c' v hh y => hm.keeps c' v y) (fun c' hh => by rw [upd_ne (ne_of_none hh hn), upd_ne (ne_of_none hh hnt)]; exact hh) fun c' xs hh => by rw [upd_ne (ne_of_none hh hn), upd_ne (ne_of_none hh hnt)]; exact hh
theorem call_isX : CallR X (.builtin "isinstance") (rIsX X.K) := by
  intro pins s σ H xs us Q I r h
  obtain ⟨x, c, C, u, b, rfl, hx, T, k, e, q⟩ := h
  obtain ⟨u1, u2, rfl, r1, r2⟩ := vals2 r
  have e2 := k.eq r2
  subst e2
  obtain ⟨cd, hcd, _⟩ := PySem.W.any_some T.hd
  have hcl : (PySem.W.clsIn X.K C).isSome = true := by rw [hcd]; rfl
  obtain ⟨a, rfl, hx⟩ := hx
  obtain rfl : u1 = Value.ref a := r1
  rcases hx with ⟨t1, ha⟩ | ⟨d, fs, ha, hd⟩
  · have ho := exq_at I.hok ha
    exact PySem.W.kia_one (PySem.W.kitx_exc (od := none) (ox := { cls := .ref C, dict := none, data := .fields #[.ref t1, .none, .none, .none, .bool false, .none] }) hcl T.hg T.hk T.hs T.ha T.hn T.ht T.hm) I.kIn ⟨ho, rfl, rfl, trivial⟩ e (fun z => nomatch z) fun tk => ⟨.bl b, H, I.tok tk, rfl, q⟩
  · obtain ⟨t1, ho⟩ := exo_at I.hok ha
    obtain ⟨mA, hns, hr⟩ := exd_at I.hok hd
    obtain ⟨od, hod, hl⟩ := lookIn_ns hns
    exact PySem.W.kia_one (PySem.W.kitx_exc (od := some od) (ox := { cls := .ref C, dict := some d, data := .fields #[.ref t1, .none, .none, .none, .bool false, .none] }) hcl T.hg T.hk T.hs T.ha T.hn T.ht T.hm) I.kIn ⟨ho, rfl, rfl, hod⟩ e (fun z => nomatch z) fun tk => ⟨.bl b, H, I.tok tk, rfl, q⟩
theorem call_strE (hu : X.A.units + 2 < cLine) : CallR X (.type "str") (rStrE X.K) := by
  intro pins s σ H xs us Q I r h
  obtain ⟨a, C, t, x, rfl, ha, hT, hs, hB, q⟩ := h
  obtain ⟨u, rfl, r1⟩ := vals1 r
  obtain rfl : u = Value.ref a := r1
  have ho := exq_at I.hok ha
  obtain ⟨_, its, rv, o, h1, h2, n, h3⟩ := (show ObjOk X.prog X.w H s.heap t (.tup [.str x]) from I.hok t _ hT)
  obtain ⟨v, rfl, tk, rfl⟩ := vals1 rv
  exact PySem.P.str_of_C_one hu ⟨I.kIn, _, _, ho, rfl, rfl, rfl⟩ ⟨o, n, h1, h2, h3⟩ hs hB ⟨.str x, H, I, ⟨tk, rfl⟩, q⟩
end
/-! ### data as text, a dict of one empty tuple among it -/
def oneD (a t : Addr) (H : Hp) : Prop := H a = some (.dK [((Sum.inr "a" : Key), V.ref t)]) ∧ H t = some (.tup [])
def Dz (K : PySem.W.Frag) (H : Hp) (v : V) (d : PyData) : Prop := (Dp K H v d ∧ d.hasDict = false) ∨ ∃ a t, v = .ref a ∧ oneD a t H ∧ d = .dict [(.str "a", .tuple [])]
section
variable {X : Cx} {e : Expr} {te : TE} {pos : Pos} {pins : List (Addr × Obj)} {σ : L2.St} {H : Hp} {s : Shared}
theorem oneD_reads {a t : Addr} (I : Inv X pins σ H s) (h : oneD a t H) : ∃ as, Reads s.heap (.ref a) (.dict [(.str "a", .tuple [])]) as ∧ sysModules ∉ as := by
  obtain ⟨h1, h2⟩ := h
  obtain ⟨hk, hne, vs, rel, dd⟩ := dk_of I.hok h1
  cases rel with
  | @cons _ q _ _ e r =>
    cases r
    obtain ⟨e1, e2⟩ := e
    obtain ⟨key, v⟩ := q
    have e1 : (Sum.inr "a" : Key) = key := e1
    have e2 : v = Value.ref t := e2
    subst e1 e2
    obtain ⟨_, its, rv, o, h3, h4, n, h5⟩ := (show ObjOk X.prog X.w H s.heap t (.tup []) from I.hok t _ h2)
    cases rv
    have rt : Reads s.heap (.ref t) (.tuple []) [] := .tuple h3 h4 h5 .nil
    refine ⟨_, PyProof.V.reads_dictOf kd_read dd (D := [(.str "a", .tuple [])]) (.cons rt .nil), fun z => ?_⟩
    have z : sysModules ∈ ([a] : List Addr) := by simpa using z
    rw [← List.mem_singleton.mp z] at hne
    exact absurd hne (by simp)
theorem Dz.reads {v : V} {u : Value} {d : PyData} (I : Inv X pins σ H s) (h : Dz X.K H v d) (r : RelV v u) : ∃ as, Reads s.heap u d as ∧ (d.hasDict = true → sysModules ∉ as) := by
  rcases h with ⟨h, e⟩ | ⟨a, t, rfl, h, rfl⟩
  · obtain ⟨as, rd⟩ := Dp.reads I d v u h r
    exact ⟨as, rd, fun z => by rw [e] at z; cases z⟩
  · cases r
    obtain ⟨as, rd, no⟩ := oneD_reads I h
    exact ⟨as, rd, fun _ => no⟩
end
/-- {x!r}, x data -/
def tFmtZ (K : PySem.W.Frag) (te : TE) : TE := fun σ H Q => te σ H fun x H1 => ∃ d : PyData, Dz K H1 x d ∧ d.showable = true ∧ d.depth ≤ 20 ∧ d.shown.length ≤ sizeLine ∧ Q (.str d.shown) H1
section
variable {X : Cx} {e : Expr} {te : TE} {pos : Pos}
theorem pe_fmtZ (hG : X.A.guards = some []) (hu : X.A.units + 64 < cLine) (he : PE X e te) : PE X (.FormattedValue e 114 none pos) (tFmtZ X.K te) := by
  refine ⟨fun pins s σ H Q I h => ?_⟩
  refine wpAny_FormattedValue_repr (thn (he.run pins s σ H _ I h) fun v s1 hv => ?_)
  obtain ⟨x, H1, I1, r1, d, hd, h1, h2, h3, q⟩ := hv
  obtain ⟨as, rd, no⟩ := hd.reads I1 r1
  have fin : ∀ (h' : Heap) (u : Tok) (tk : Nat), (∀ b o, s1.heap.get? b = some o → h'.get? b = some o) → wpAny (model X.prog X.w) X.A (formatField (.str d.shown u) Str.empty) (EP X pins σ Q) X.xe { s1 with heap := h', toks := tk } := fun h' u tk k =>
    wpAny_formatField_str ⟨.str d.shown, H1, I1.kept (t' := tk) k, ⟨_, rfl⟩, q⟩ ⟨.str d.shown, H1, (I1.kept (t' := tk) k).tok _, ⟨_, rfl⟩, q⟩ h3
  have all := @pyRepr_of_reads_sz
  cases rd with
  | none => exact pyReprObj_none (fin _ _ _ fun _ _ z => z)
  | bool b => exact pyReprObj_bool (fin _ _ _ fun _ _ z => z)
  | int i t => exact pyReprObj_int (by simpa [PyData.showable] using h1) (fin _ _ _ fun _ _ z => z)
  | str y t => exact pyReprObj_str (fin _ _ _ fun _ _ z => z) (by simpa only [PyData.shown] using h3)
  | list a b c d' => exact pyReprObj_of_reads (h₀ := s1.heap) (.list a b c d') h1 no hG (by omega) (fun _ _ z => z) fin h3
  | tuple a b c d' => exact pyReprObj_of_reads (h₀ := s1.heap) (.tuple a b c d') h1 no hG (by omega) (fun _ _ z => z) fin h3
  | dict a b c d' e' => exact pyReprObj_of_reads (h₀ := s1.heap) (.dict a b c d' e') h1 no hG (by omega) (fun _ _ z => z) fin h3
/-- list * n, the new one is not sys.modules -/
def rRepB : R2 := fun x y H Q => ∃ l k xs, x = .ref l ∧ y = .int k ∧ H l = some (.lst xs) ∧ -(2 ^ 63) ≤ k ∧ k < 2 ^ 63 ∧ xs.length * k.toNat ≤ sizeLine ∧ ∀ p, H p = none → p ≠ sysModules → Q (.ref p) (upd H p (.lst (List.replicate k.toNat xs).flatten))
theorem op_repB : OpR X (binaryOp .Mult) rRepB := by
  intro pins s σ H x y v u Q I rx ry h
  obtain ⟨l, k, xs, rfl, rfl, hH, h1, h2, hz, q⟩ := h
  cases rx
  obtain ⟨t, rfl⟩ := ry
  obtain ⟨z, its, n, r, hl, e⟩ := I.lstM hH
  have a1 : its.toArray.size * k.toNat ≤ sizeLine := by rw [List.size_toArray, ← hl]; exact hz
  have a2 : ¬ its.toArray.size * k.toNat > (2 ^ 63 - 1) / 8 := by
    have : (sizeLine : Nat) ≤ (2 ^ 63 - 1) / 8 := by decide
    omega
  have a3 : ¬ (!Builtin.List.listFitsIndex k) = true := by
    rw [fitsIndex_both h1 h2]
    exact Bool.false_ne_true
  have a4 : ¬ Builtin.List.listTooLong (its.toArray.size * k.toNat) = true := by
    rw [notLongL a1]
    exact Bool.false_ne_true
  have a5 : ∀ m : Nat, List.foldl (fun x1 x2 => x1 ++ x2) #[] (List.replicate m its.toArray) = (List.replicate m its).flatten.toArray := fun m => by
    have := foldl_rep its m []
    rw [List.nil_append] at this
    exact this
  have a6 : List.foldl (fun x1 x2 => x1 ++ x2) #[] (List.replicate (if its.toArray.isEmpty = true then 0 else k.toNat) its.toArray) = (List.replicate k.toNat its).flatten.toArray := by
    rw [a5]
    cases its with
    | nil => simp
    | cons a r' => rw [if_neg (by simp)]
  refine wpAny_binaryOp_repeat_ref (T := "list") (U := "int") (by decide) ⟨_, e, rfl⟩ (fun s' => typeIs_int s' k t) noFill_list_mul F.fills_int_mul F.slot_int_rmul repeat_list F.slot_int_index.lookup
    (call_meets F.slot_int_rmul (typeIs_int s k t) F.entry_int_rmul (F.args_int_rmul_2 _ _) (int___rmul___int_list k t l its.toArray n)
      ⟨e, rfl, ⟨_, e, rfl⟩, call_meets F.slot_list_mul ⟨_, e, rfl⟩ F.entry_list_mul (F.args_list_mul_2 _ _) (AutoListH.list___mul___list_int_3 l its.toArray n k t a3 a2 a4) ⟨e, ?_⟩⟩)
  rw [a6]
  exact ⟨.ref _, _, I.lnew (t' := s.toks) (r.rep k.toNat) (by rw [PyProof.Rows.lm_len_rep_flat, Nat.mul_comm]; exact hz), rfl, q _ I.fresh (Nat.ne_of_gt I.big)⟩
/-- repr of data -/
theorem call_reprZ (hG : X.A.guards = some []) (hu : X.A.units + 64 < cLine) : CallR X (.builtin "repr") (fun xs H Q => ∃ (v : V) (d : PyData), xs = [v] ∧ Dz X.K H v d ∧ d.showable = true ∧ d.depth ≤ 20 ∧ d.shown.length ≤ sizeLine ∧ Q (.str d.shown) H) := by
  intro pins s σ H xs us Q I r h
  obtain ⟨v, d, rfl, hd, h1, h2, h3, q⟩ := h
  obtain ⟨u, rfl, r1⟩ := vals1 r
  obtain ⟨as, rd, no⟩ := hd.reads I r1
  have fin : ∀ (h' : Heap) (u : Tok) (tk : Nat), (∀ b o, s.heap.get? b = some o → h'.get? b = some o) → EP X pins σ Q (.str d.shown u) { s with heap := h', toks := tk } := fun h' u tk k => ⟨.str d.shown, H, I.kept k, ⟨u, rfl⟩, q⟩
  cases rd with
  | none => exact PySem.P.repr_of_none (fin _ _ _ fun _ _ z => z)
  | bool b => exact PySem.P.repr_of_bool (fin _ _ _ fun _ _ z => z)
  | int i t => exact PySem.P.repr_of_int (by simpa [PyData.showable] using h1) (fin _ _ _ fun _ _ z => z)
  | str y t => exact PySem.P.repr_of_str (fin _ _ _ fun _ _ z => z) (by simpa only [PyData.shown] using h3)
  | list a b c d' => exact repr_of_reads' (h₀ := s.heap) (.list a b c d') h1 no hG (by omega) (fun _ _ z => z) fin h3
  | tuple a b c d' => exact repr_of_reads' (h₀ := s.heap) (.tuple a b c d') h1 no hG (by omega) (fun _ _ z => z) fin h3
  | dict a b c d' e' => exact repr_of_reads' (h₀ := s.heap) (.dict a b c d' e') h1 no hG (by omega) (fun _ _ z => z) fin h3
end
/-! ### an own exception that a def makes -/
structure MakE (P : Program) (w : World) (K : PySem.W.Frag) (mg : Str → Option Value) (base : Heap) (C : Addr) (i : String) (k : Nat) (ps : List Str) (sp : Sp) : Prop where
  ex : ∃ fI fd, FnOkG P w K mg base CX0 k fI fd ps sp ∧ PySem.W.findIn K (.ref C) "__init__" = some (some (.ref fI)) ∧ PySem.W.typeIn K (.ref fI) = some (.type "function") ∧ Binds K fd ps []
  o : OexB K C i
section
variable {X : Cx} {C : Addr} {i : String} {k : Nat} {ps : List Str} {sp : Sp} {e : Expr} {es : List Expr} {ta : TA} {x : Str} {p pos : Pos}
theorem pe_makeE (c : MakE X.prog X.w X.K X.mg X.base C i k ps sp) (hr : Room (k + 1) X.A) (hG : X.A.guards = some []) (hg : Gl X x) (hm : X.mg x = some (.ref C)) (ha : PA X (e :: es) ta)
    (hdb : (x == ("__debug__" : Str)) = false := by decide) (he : starEach (e :: es) X.env = (false, eval e X.env) :: starEach es X.env := by rfl) (hpl : (backTo pos (starEach es X.env)).any (·.1) = false := by rfl) :
    PE X (.Call (.Name x p) (e :: es) [] pos) (tMkE C sp ta) := by
  obtain ⟨fI, fd, F1, iC, tI, hb⟩ := c.ex
  exact pe_mkE c.o iC tI F1 hr hG hb hg hm ha hdb he hpl
end
/-! ### a text taken a number of times -/
def repS (x : Str) (n : Int) : Str := if n < 1 then Str.empty else if (n == 1 || x.length == 0) = true then x else ⟨(List.replicate n.toNat x.cps).foldl (· ++ ·) #[]⟩
def rRepS : R2 := fun x y H Q => ∃ a n, x = .str a ∧ y = .int n ∧ a.length = 1 ∧ 0 ≤ n ∧ n ≤ 1000 ∧ Q (.str (repS a n)) H
theorem fold_size {α : Type} (c : Array α) : ∀ (m : Nat) (acc : Array α), ((List.replicate m c).foldl (· ++ ·) acc).size = acc.size + m * c.size
  | 0, acc => by simp
  | m + 1, acc => by
    rw [List.replicate_succ, List.foldl_cons, fold_size c m, Array.size_append, Nat.succ_mul]
    omega
section
variable {X : Cx}
theorem op_repS : OpR X (binaryOp .Mult) rRepS := by
  intro pins s σ H x y v u Q I rx ry h
  obtain ⟨a, n, rfl, rfl, h1, h2, h3, q⟩ := h
  obtain ⟨t, rfl⟩ := rx
  obtain ⟨t2, rfl⟩ := ry
  refine PySem.P.mul_str ?_ ?_ ?_ ?_
  · rw [decide_eq_false (by omega), decide_eq_false (by omega)]
    rfl
  · intro c1 c2
    rw [h1]
    intro z
    have : (2 ^ 63 - 1 : Int) / n ≥ 1 := Int.le_ediv_of_mul_le (by omega) (by omega)
    omega
  · intro c1 c2
    rw [h1]
    exact decide_eq_false (by rw [sizeLine_eq]; omega)
  · have q' : Q (V.str (if n < 1 then Str.empty else if (n == 1 || a.length == 0) = true then a else ⟨(List.replicate n.toNat a.cps).foldl (· ++ ·) #[]⟩)) H := q
    split
    · rename_i c
      rw [if_pos c] at q'
      exact ⟨by decide, .str _, H, I.tok _, ⟨_, rfl⟩, q'⟩
    · rename_i c
      rw [if_neg c] at q'
      split
      · rename_i c2
        rw [if_pos c2] at q'
        exact ⟨.str _, H, I, ⟨_, rfl⟩, q'⟩
      · rename_i c2
        rw [if_neg c2] at q'
        refine ⟨?_, .str _, H, I.tok _, ⟨_, rfl⟩, q'⟩
        show ((List.replicate n.toNat a.cps).foldl (· ++ ·) #[]).size ≤ sizeLine
        have e : a.cps.size = 1 := h1
        rw [fold_size, e, sizeLine_eq]
        show 0 + n.toNat * 1 ≤ _
        omega
end
/-! ### repr of a list of like things -/
section
variable {X : Cx} {pins : List (Addr × Obj)} {σ : L2.St} {H : Hp} {s : Shared}
theorem dz_all {D : PyData} (I : Inv X pins σ H s) : ∀ {vs : List V} {us : List Value}, (∀ v ∈ vs, Dz X.K H v D) → Vals vs us → ∃ as, ReadsAll s.heap us (List.replicate vs.length D) as ∧ (D.hasDict = true → sysModules ∉ as)
  | [], _, _, .nil => ⟨[], .nil, fun _ => by simp⟩
  | v :: vs, _, h, .cons r rs => by
    obtain ⟨as, r1, n1⟩ := (h v List.mem_cons_self).reads I r
    obtain ⟨bs, r2, n2⟩ := dz_all I (fun w m => h w (List.mem_cons_of_mem _ m)) rs
    exact ⟨as ++ bs, .cons r1 r2, fun z => by rw [List.mem_append]; exact fun k => k.elim (n1 z) (n2 z)⟩
theorem flat_all {D : PyData} (h : D.hasDict = false) : ∀ n : Nat, PyData.hasDictAll (List.replicate n D) = false
  | 0 => by simp [PyData.hasDictAll]
  | n + 1 => by
    rw [List.replicate_succ]
    simp only [PyData.hasDictAll]
    rw [h, flat_all h n]
    rfl
theorem call_reprL (hG : X.A.guards = some []) (hu : X.A.units + 64 < cLine) : CallR X (.builtin "repr") (fun xs H Q => ∃ (p : Addr) (vs : List V) (D : PyData), xs = [.ref p] ∧ p ≠ sysModules ∧ H p = some (.lst vs) ∧ (∀ v ∈ vs, Dz X.K H v D) ∧ (PyData.list (List.replicate vs.length D)).showable = true ∧ (PyData.list (List.replicate vs.length D)).depth ≤ 20 ∧ (PyData.list (List.replicate vs.length D)).shown.length ≤ sizeLine ∧ Q (.str (PyData.list (List.replicate vs.length D)).shown) H) := by
  intro pins s σ H xs us Q I r h
  obtain ⟨p, vs, D, rfl, np, hp, hv, h1, h2, h3, q⟩ := h
  obtain ⟨u, rfl, r1⟩ := vals1 r
  cases r1
  obtain ⟨its, rv, ⟨o, n, ho, hc, hdn, hdt⟩, hz⟩ := I.list (SqL.of hp)
  obtain ⟨as, ra, no⟩ := dz_all I hv rv
  refine repr_of_reads' (h₀ := s.heap) (Reads.list ho hc hdt ra) h1 (fun z => ?_) hG (by omega) (fun _ _ e => e) (fun h' u tk k => ⟨.str _, H, I.kept k, ⟨u, rfl⟩, q⟩) h3
  have hd : D.hasDict = true := by
    cases e : D.hasDict with
    | true => rfl
    | false =>
      simp only [PyData.hasDict] at z
      rw [flat_all e] at z
      cases z
  intro m
  rcases List.mem_cons.mp m with m | m
  · exact np m.symm
  · exact no hd m
end


end My
namespace My
open PySem PySem.Spec PyProof.Rows L2 TL
theorem nx_go {D : Ends} {σ : L2.St} {H : Hp} (h : D.nx σ H) : tNext D σ H := h
theorem asg_go2 {i : Nat} {x : V} {σ : L2.St} {H : Hp} {N : L2.St → Hp → Prop} (h : N (σ.set i (some x)) H) : gName i x σ H N := h
theorem cut_if {tt : TT} {a b : TS} {D : Ends} {σ : L2.St} {H : Hp} (PV : Bool → Hp → Prop) (h : ∀ Q : Bool → Hp → Prop, (∀ c H', PV c H' → Q c H') → tt σ H Q)
    (k : ∀ c H', PV c H' → (if c = true then a D σ H' else b D σ H')) : tIfS tt a b D σ H := h _ k
theorem cut_st {a u : TS} {D : Ends} {σ : L2.St} {H : Hp} (PV : L2.St → Hp → Prop) (h : ∀ N : L2.St → Hp → Prop, (∀ σ' H', PV σ' H' → N σ' H') → a { D with nx := N } σ H)
    (k : ∀ σ' H', PV σ' H' → u D σ' H') : tSeq a u D σ H := h _ k
theorem cut_arg {te : TE} {σ : L2.St} {H : Hp} {Q : List V → Hp → Prop} (PV : V → Hp → Prop) (h : ∀ Q : VK, (∀ v H', PV v H' → Q v H') → te σ H Q) (k : ∀ v H', PV v H' → Q [v] H') : tCons te tNil σ H Q := h _ k


end My
namespace My
open PySem PySem.Spec PyProof.Rows L2 TL
/-! ### data that an exception keeps -/
mutual
/-- data all of whose objects lie in A -/
inductive Dw (A : Addr → Prop) (H : Hp) : V → PyData → Prop
  | non : Dw A H .non .none
  | bl (b : Bool) : Dw A H (.bl b) (.bool b)
  | int (i : Int) : Dw A H (.int i) (.int i)
  | str (x : Str) : Dw A H (.str x) (.str x)
  | lst {a : Addr} {xs : List V} {ds : List PyData} : xs.length ≤ 100 → A a → H a = some (.lst xs) → DwAll A H xs ds → Dw A H (.ref a) (.list ds)
  | tup {a : Addr} {xs : List V} {ds : List PyData} : xs.length ≤ 100 → A a → H a = some (.tup xs) → DwAll A H xs ds → Dw A H (.ref a) (.tuple ds)
inductive DwAll (A : Addr → Prop) (H : Hp) : List V → List PyData → Prop
  | nil : DwAll A H [] []
  | cons {v : V} {vs : List V} {d : PyData} {ds : List PyData} : Dw A H v d → DwAll A H vs ds → DwAll A H (v :: vs) (d :: ds)
end
mutual
theorem Dw.keep {A B : Addr → Prop} {H H' : Hp} (s : ∀ a o, A a → H a = some o → H' a = some o) (m : ∀ a o, H a = some o → A a → B a) : ∀ {v : V} {d : PyData}, Dw A H v d → Dw B H' v d
  | _, _, .non => .non
  | _, _, .bl b => .bl b
  | _, _, .int i => .int i
  | _, _, .str x => .str x
  | _, _, .lst z a h r => .lst z (m _ _ h a) (s _ _ a h) (DwAll.keep s m r)
  | _, _, .tup z a h r => .tup z (m _ _ h a) (s _ _ a h) (DwAll.keep s m r)
theorem DwAll.keep {A B : Addr → Prop} {H H' : Hp} (s : ∀ a o, A a → H a = some o → H' a = some o) (m : ∀ a o, H a = some o → A a → B a) : ∀ {v : List V} {d : List PyData}, DwAll A H v d → DwAll B H' v d
  | _, _, .nil => .nil
  | _, _, .cons h r => .cons (Dw.keep s m h) (DwAll.keep s m r)
end
mutual
theorem Dw.dp {K : PySem.W.Frag} {A : Addr → Prop} {H : Hp} : ∀ {v : V} {d : PyData}, Dw A H v d → Dp K H v d
  | _, _, .non => .non
  | _, _, .bl b => .bl b
  | _, _, .int i => .int i
  | _, _, .str x => .str x
  | _, _, .lst _ _ h r => .lst (SqL.of h) (DwAll.dp r)
  | _, _, .tup _ _ h r => .tup (SqT.of h) (DwAll.dp r)
theorem DwAll.dp {K : PySem.W.Frag} {A : Addr → Prop} {H : Hp} : ∀ {v : List V} {d : List PyData}, DwAll A H v d → DpAll K H v d
  | _, _, .nil => .nil
  | _, _, .cons h r => .cons (Dw.dp h) (DwAll.dp r)
end
mutual
theorem Dw.flat {A : Addr → Prop} {H : Hp} : ∀ {v : V} {d : PyData}, Dw A H v d → d.hasDict = false
  | _, _, .non => by simp only [PyData.hasDict]
  | _, _, .bl b => by simp only [PyData.hasDict]
  | _, _, .int i => by simp only [PyData.hasDict]
  | _, _, .str x => by simp only [PyData.hasDict]
  | _, _, .lst _ _ h r => by simp only [PyData.hasDict]; exact DwAll.flat r
  | _, _, .tup _ _ h r => by simp only [PyData.hasDict]; exact DwAll.flat r
theorem DwAll.flat {A : Addr → Prop} {H : Hp} : ∀ {v : List V} {d : List PyData}, DwAll A H v d → PyData.hasDictAll d = false
  | _, _, .nil => by simp only [PyData.hasDictAll]
  | _, _, .cons h r => by simp only [PyData.hasDictAll]; rw [Dw.flat h, DwAll.flat r]; rfl
end
theorem DwAll.len {A : Addr → Prop} {H : Hp} : ∀ {v : List V} {d : List PyData}, DwAll A H v d → v.length = d.length
  | _, _, .nil => rfl
  | _, _, .cons h r => congrArg (· + 1) (DwAll.len r)
theorem DwAll.get {A : Addr → Prop} {H : Hp} : ∀ {vs : List V} {ds : List PyData} {i : Nat} {v : V}, DwAll A H vs ds → vs[i]? = some v → ∃ d, ds[i]? = some d ∧ Dw A H v d
  | _, _, _, _, .nil, e => by cases e
  | _, _, 0, _, .cons h _, e => by cases e; exact ⟨_, rfl, h⟩
  | _, _, i + 1, _, .cons _ r, e => DwAll.get (i := i) r e
theorem DwAll.snoc {A : Addr → Prop} {H : Hp} {v : V} {d : PyData} : ∀ {vs : List V} {ds : List PyData}, DwAll A H vs ds → Dw A H v d → DwAll A H (vs ++ [v]) (ds ++ [d])
  | _, _, .nil, h => .cons h .nil
  | _, _, .cons a r, h => .cons a (DwAll.snoc r h)
theorem depth_mem {ds : List PyData} {d : PyData} : ∀ {i : Nat}, ds[i]? = some d → d.depth ≤ PyData.depthAll ds := by
  induction ds with
  | nil => intro i e; cases e
  | cons a r ih =>
    intro i e
    simp only [PyData.depthAll]
    cases i with
    | zero => cases e; exact Nat.le_max_left _ _
    | succ i => exact Nat.le_trans (ih (i := i) e) (Nat.le_max_right _ _)
/-- .. or the dict of one empty tuple -/
def Dy (A : Addr → Prop) (H : Hp) (v : V) (d : PyData) : Prop := Dw A H v d ∨ ∃ a t, v = .ref a ∧ A a ∧ A t ∧ oneD a t H ∧ d = .dict [(.str "a", .tuple [])]
theorem Dy.keep {A B : Addr → Prop} {H H' : Hp} (s : ∀ a o, A a → H a = some o → H' a = some o) (m : ∀ a o, H a = some o → A a → B a) {v : V} {d : PyData} (h : Dy A H v d) : Dy B H' v d := by
  rcases h with h | ⟨a, t, e, ha, ht, ⟨h1, h2⟩, ed⟩
  · exact .inl (h.keep s m)
  · exact .inr ⟨a, t, e, m _ _ h1 ha, m _ _ h2 ht, ⟨s _ _ ha h1, s _ _ ht h2⟩, ed⟩
theorem Dy.same {A : Addr → Prop} {H H' : Hp} (s : Same H H') {v : V} {d : PyData} (h : Dy A H v d) : Dy A H' v d := h.keep (fun a o _ e => s a o e) fun _ _ _ x => x
theorem Dy.dz {K : PySem.W.Frag} {A : Addr → Prop} {H : Hp} {v : V} {d : PyData} (h : Dy A H v d) : Dz K H v d := by
  rcases h with h | ⟨a, t, e, _, _, h, ed⟩
  · exact .inl ⟨h.dp, h.flat⟩
  · exact .inr ⟨a, t, e, h, ed⟩
def spr__kept (n : Nat) (K : PySem.W.Frag) : Sp := fun vs H Q _ => ∃ v d, vs = [v] ∧ Dy (fun _ => True) H v d ∧ d.depth ≤ n ∧ ∀ w H', Same H H' → Dy (fun a => H a = none) H' w d → Q w H'
def sp__kept (K : PySem.W.Frag) : Sp := spr__kept 5 K
theorem dc_keys {d : Addr} {o : Obj} {kvs : List (Key × V)} {g : TG} {tt : TT} {tk tv : TE} {vs : List Nat} {σ : L2.St} {H1 : Hp} {D : Addr} {Qd : Hp → Prop} (Pv : Nat → Hp → Prop) (h0 : Pv 0 (upd H1 D (.dK []))) (hl : ∀ i H, i ≤ kvs.length → Pv i H → H d = some (.frz o (.dK kvs)))
    (hs : ∀ i k v H, kvs[i]? = some (k, v) → Pv i H → g (kV k) (wipe σ vs) H fun σ2 H2 => wipe σ2 vs = wipe σ vs ∧ tt σ2 H2 fun b H3 =>
      if b = true then tk σ2 H3 fun y H4 => tv σ2 H4 fun z H5 => ∃ kvs k, y = kV k ∧ H5 D = some (.dK kvs) ∧ kvs.length < sizeLine ∧ Pv (i + 1) (upd H5 D (.dK (putK kvs k z))) else Pv (i + 1) H3) (hd : ∀ H, Pv kvs.length H → Qd H) :
    ∃ W : Nat → Nat → Hp → Prop, (∃ m, W 0 m (upd H1 D (.dK []))) ∧ ∀ i m H, W i m H →
      ((Itk d o kvs).stop i H ∧ Qd H) ∨ ((Itk d o kvs).go i H ∧ ∃ Nx : Hp → Prop, (∀ H', Nx H' → ∃ m', m' < m ∧ W (i + 1) m' H') ∧ ∀ v H', (Itk d o kvs).yld i H v H' → g v (wipe σ vs) H' fun σ2 H2 => wipe σ2 vs = wipe σ vs ∧ tt σ2 H2 fun b H3 =>
        if b = true then tk σ2 H3 fun y H4 => tv σ2 H4 fun z H5 => ∃ kvs k, y = kV k ∧ H5 D = some (.dK kvs) ∧ kvs.length < sizeLine ∧ Nx (upd H5 D (.dK (putK kvs k z))) else Nx H3) := by
  refine ⟨fun i m H => m = kvs.length - i ∧ i ≤ kvs.length ∧ Pv i H, ⟨kvs.length, by simp, Nat.zero_le _, h0⟩, ?_⟩
  rintro i m H ⟨rfl, hi, p⟩
  by_cases hlt : i < kvs.length
  · refine .inr ⟨⟨hl i H hi p, hlt⟩, Pv (i + 1), fun H' p' => ⟨kvs.length - (i + 1), by omega, rfl, hlt, p'⟩, fun x H' y => ?_⟩
    obtain ⟨e, k, v, ek, rfl⟩ := y
    subst e
    exact hs i k v _ ek p
  · have e : i = kvs.length := by omega
    exact .inl ⟨⟨hl i H hi p, by omega⟩, hd H (by rw [e] at p; exact p)⟩


end My
namespace My
open PySem PySem.Spec PyProof.Rows L2 TL
def topS (i : Nat) : Stmt := PySem.Challenge.pw_fromparts_k00_errors_and_what_they_keep.main.body.getD i (.Pass ⟨0, 0, 0, 0⟩)
abbrev s__kept : Stmt := topS 1
theorem sc__kept : FnScope ["value", "one", "name"] ["value"] (defScope s__kept) := ⟨rfl, rfl, rfl, by decide +kernel, rfl, by decide +kernel, by decide +kernel⟩
abbrev s_ParseError___init__ : Stmt := inClass (topS 11) 0
theorem sc_ParseError___init__ : FnScope ["self", "line"] ["self", "line"] (defScope s_ParseError___init__) := ⟨rfl, rfl, rfl, by decide +kernel, rfl, by decide +kernel, by decide +kernel⟩
abbrev s_UnknownWord___init__ : Stmt := inClass (topS 12) 0
theorem sc_UnknownWord___init__ : FnScope ["self", "asked"] ["self", "asked"] (defScope s_UnknownWord___init__) := ⟨rfl, rfl, rfl, by decide +kernel, rfl, by decide +kernel, by decide +kernel⟩
abbrev s_NoProgram___init__ : Stmt := inClass (topS 13) 0
theorem sc_NoProgram___init__ : FnScope ["self", "wanted"] ["self", "wanted"] (defScope s_NoProgram___init__) := ⟨rfl, rfl, rfl, by decide +kernel, rfl, by decide +kernel, by decide +kernel⟩
abbrev s_NothingToUndo___init__ : Stmt := inClass (topS 14) 0
theorem sc_NothingToUndo___init__ : FnScope ["self", "amount"] ["self", "amount"] (defScope s_NothingToUndo___init__) := ⟨rfl, rfl, rfl, by decide +kernel, rfl, by decide +kernel, by decide +kernel⟩
abbrev s_TooMany___init__ : Stmt := inClass (topS 15) 0
theorem sc_TooMany___init__ : FnScope ["self", "limit"] ["self", "limit"] (defScope s_TooMany___init__) := ⟨rfl, rfl, rfl, by decide +kernel, rfl, by decide +kernel, by decide +kernel⟩
abbrev s_Refused___init__ : Stmt := inClass (topS 16) 0
theorem sc_Refused___init__ : FnScope ["self", "cause"] ["self", "cause"] (defScope s_Refused___init__) := ⟨rfl, rfl, rfl, by decide +kernel, rfl, by decide +kernel, by decide +kernel⟩
abbrev s_InvalidNumber___init__ : Stmt := inClass (topS 17) 0
theorem sc_InvalidNumber___init__ : FnScope ["self", "number"] ["self", "number"] (defScope s_InvalidNumber___init__) := ⟨rfl, rfl, rfl, by decide +kernel, rfl, by decide +kernel, by decide +kernel⟩
abbrev s__law_dice : Stmt := topS 19
theorem sc__law_dice : FnScope ["_law_script", "_law_spot", "_law_cell", "_law_great", "_law_blend"] ["_law_script", "_law_spot"] (defScope s__law_dice) := ⟨rfl, rfl, rfl, by decide +kernel, rfl, by decide +kernel, by decide +kernel⟩
abbrev s__law_roll : Stmt := topS 20
theorem sc__law_roll : FnScope ["_law_dice_here", "_law_total", "_law_found", "_law_one", "_law_two"] ["_law_dice_here", "_law_total"] (defScope s__law_roll) := ⟨rfl, rfl, rfl, by decide +kernel, rfl, by decide +kernel, by decide +kernel⟩
abbrev s__law_pick : Stmt := topS 21
theorem sc__law_pick : FnScope ["_law_dice_here", "_law_items"] ["_law_dice_here", "_law_items"] (defScope s__law_pick) := ⟨rfl, rfl, rfl, by decide +kernel, rfl, by decide +kernel, by decide +kernel⟩
abbrev s__law_kinds : Stmt := topS 22
theorem sc__law_kinds : FnScope ["_law_error", "_law_told", "_law_one"] ["_law_error"] (defScope s__law_kinds) := ⟨rfl, rfl, rfl, by decide +kernel, rfl, by decide +kernel, by decide +kernel⟩
abbrev s__law_others : Stmt := topS 23
theorem sc__law_others : FnScope ["_law_error", "_law_told", "_law_one"] ["_law_error"] (defScope s__law_others) := ⟨rfl, rfl, rfl, by decide +kernel, rfl, by decide +kernel, by decide +kernel⟩
abbrev s__law_right : Stmt := topS 24
theorem sc__law_right : FnScope ["_law_dice_here", "_law_thing", "_law_words", "_law_base", "_law_due", "_law_others_here", "_law_at", "_law_kept", "_law_one"] ["_law_dice_here"] (defScope s__law_right) := ⟨rfl, rfl, rfl, by decide +kernel, rfl, by decide +kernel, by decide +kernel⟩
abbrev s_law : Stmt := topS 25
theorem sc_law : FnScope ["_law_script", "_law_spot", "_law_dice_here", "_law_turn"] ["_law_script"] (defScope s_law) := ⟨rfl, rfl, rfl, by decide +kernel, rfl, by decide +kernel, by decide +kernel⟩
/-! ### the own exceptions -/
inductive ExN | BuildError | InvalidWord | InvalidType | InvalidLibrary | InvalidProgram | InvalidQuestion | InvalidRoom | InvalidDraft | InvalidOperation | ParseError | UnknownWord | NoProgram | NothingToUndo | TooMany | Refused | InvalidNumber
deriving DecidableEq
def ExN.nm : ExN → Str
  | .BuildError => "BuildError"
  | .InvalidWord => "InvalidWord"
  | .InvalidType => "InvalidType"
  | .InvalidLibrary => "InvalidLibrary"
  | .InvalidProgram => "InvalidProgram"
  | .InvalidQuestion => "InvalidQuestion"
  | .InvalidRoom => "InvalidRoom"
  | .InvalidDraft => "InvalidDraft"
  | .InvalidOperation => "InvalidOperation"
  | .ParseError => "ParseError"
  | .UnknownWord => "UnknownWord"
  | .NoProgram => "NoProgram"
  | .NothingToUndo => "NothingToUndo"
  | .TooMany => "TooMany"
  | .Refused => "Refused"
  | .InvalidNumber => "InvalidNumber"
def ExN.ini : ExN → String
  | .BuildError => "ValueError.__init__"
  | .InvalidWord => "ValueError.__init__"
  | .InvalidType => "ValueError.__init__"
  | .InvalidLibrary => "ValueError.__init__"
  | .InvalidProgram => "ValueError.__init__"
  | .InvalidQuestion => "ValueError.__init__"
  | .InvalidRoom => "ValueError.__init__"
  | .InvalidDraft => "ValueError.__init__"
  | .InvalidOperation => "ValueError.__init__"
  | .ParseError => "ValueError.__init__"
  | .UnknownWord => "KeyError.__init__"
  | .NoProgram => "LookupError.__init__"
  | .NothingToUndo => "IndexError.__init__"
  | .TooMany => "OverflowError.__init__"
  | .Refused => "ArithmeticError.__init__"
  | .InvalidNumber => "RuntimeError.__init__"
def ExN.plain : ExN → Bool
  | .BuildError => true
  | .InvalidWord => true
  | .InvalidType => true
  | .InvalidLibrary => true
  | .InvalidProgram => true
  | .InvalidQuestion => true
  | .InvalidRoom => true
  | .InvalidDraft => true
  | .InvalidOperation => true
  | .ParseError => false
  | .UnknownWord => false
  | .NoProgram => false
  | .NothingToUndo => false
  | .TooMany => false
  | .Refused => false
  | .InvalidNumber => false
def ExN.fn : ExN → Str
  | .BuildError => ""
  | .InvalidWord => ""
  | .InvalidType => ""
  | .InvalidLibrary => ""
  | .InvalidProgram => ""
  | .InvalidQuestion => ""
  | .InvalidRoom => ""
  | .InvalidDraft => ""
  | .InvalidOperation => ""
  | .ParseError => "line"
  | .UnknownWord => "asked"
  | .NoProgram => "wanted"
  | .NothingToUndo => "amount"
  | .TooMany => "limit"
  | .Refused => "cause"
  | .InvalidNumber => "number"
def ExN.sub : ExN → ExN → Bool
  | .BuildError, .BuildError => true
  | .InvalidWord, .BuildError => true
  | .InvalidWord, .InvalidWord => true
  | .InvalidType, .BuildError => true
  | .InvalidType, .InvalidType => true
  | .InvalidLibrary, .BuildError => true
  | .InvalidLibrary, .InvalidLibrary => true
  | .InvalidProgram, .BuildError => true
  | .InvalidProgram, .InvalidProgram => true
  | .InvalidQuestion, .BuildError => true
  | .InvalidQuestion, .InvalidQuestion => true
  | .InvalidRoom, .BuildError => true
  | .InvalidRoom, .InvalidRoom => true
  | .InvalidDraft, .BuildError => true
  | .InvalidDraft, .InvalidDraft => true
  | .InvalidOperation, .BuildError => true
  | .InvalidOperation, .InvalidOperation => true
  | .ParseError, .BuildError => true
  | .ParseError, .ParseError => true
  | .UnknownWord, .UnknownWord => true
  | .NoProgram, .NoProgram => true
  | .NothingToUndo, .NothingToUndo => true
  | .TooMany, .TooMany => true
  | .Refused, .Refused => true
  | .InvalidNumber, .InvalidNumber => true
  | _, _ => false
inductive BtN | ValueError | KeyError | IndexError | LookupError | OverflowError | ArithmeticError | RuntimeError
def BtN.nm : BtN → String
  | .ValueError => "ValueError"
  | .KeyError => "KeyError"
  | .IndexError => "IndexError"
  | .LookupError => "LookupError"
  | .OverflowError => "OverflowError"
  | .ArithmeticError => "ArithmeticError"
  | .RuntimeError => "RuntimeError"
def ExN.subT : ExN → BtN → Bool
  | .BuildError, .ValueError => true
  | .InvalidWord, .ValueError => true
  | .InvalidType, .ValueError => true
  | .InvalidLibrary, .ValueError => true
  | .InvalidProgram, .ValueError => true
  | .InvalidQuestion, .ValueError => true
  | .InvalidRoom, .ValueError => true
  | .InvalidDraft, .ValueError => true
  | .InvalidOperation, .ValueError => true
  | .ParseError, .ValueError => true
  | .UnknownWord, .KeyError => true
  | .UnknownWord, .LookupError => true
  | .NoProgram, .LookupError => true
  | .NothingToUndo, .IndexError => true
  | .NothingToUndo, .LookupError => true
  | .TooMany, .OverflowError => true
  | .TooMany, .ArithmeticError => true
  | .Refused, .ArithmeticError => true
  | .InvalidNumber, .RuntimeError => true
  | _, _ => false
structure Exs (K : PySem.W.Frag) (mg : Str → Option Value) (C : ExN → Addr) : Prop where
  g : ∀ n, mg n.nm = some (.ref (C n))
  o : ∀ n, OexB K (C n) n.ini
  kx : ∀ n m, PySem.W.kitOne K (.ref (C n)) (.ref (C m)) = some (n.sub m)
  kt : ∀ n (b : BtN), PySem.W.kitOne K (.ref (C n)) (.type b.nm) = some (n.subT b)
  ec : ∀ n, L2.ExcC K (C n)
  plain : ∀ n, n.plain = true → PySem.W.excIn K (C n) [.type "ValueError", .type "Exception", .type "BaseException", .type "object"] "ValueError.__new__" = true
  str : ∀ n, n.plain = true → PySem.W.findIn K (.ref (C n)) "__str__" = some (some (.builtin "BaseException.__str__"))
  fld : ∀ n f, n.fn = f → PySem.W.findIn K (.ref (C n)) f = some none
  rd : ClX.CRead K (C .BuildError) (.type "type")
  ini : PySem.W.findCls K (.ref (C .BuildError)) (.type "type") "__init__" = some (.val (.builtin "ValueError.__init__"))
  v_KeyError : PySem.W.findCls K (.type "KeyError") (.type "type") "__init__" = some (.val (.builtin "KeyError.__init__"))
  v_IndexError : PySem.W.findCls K (.type "IndexError") (.type "type") "__init__" = some (.val (.builtin "IndexError.__init__"))
  v_LookupError : PySem.W.findCls K (.type "LookupError") (.type "type") "__init__" = some (.val (.builtin "LookupError.__init__"))
  v_OverflowError : PySem.W.findCls K (.type "OverflowError") (.type "type") "__init__" = some (.val (.builtin "OverflowError.__init__"))
  v_ArithmeticError : PySem.W.findCls K (.type "ArithmeticError") (.type "type") "__init__" = some (.val (.builtin "ArithmeticError.__init__"))
  v_RuntimeError : PySem.W.findCls K (.type "RuntimeError") (.type "type") "__init__" = some (.val (.builtin "RuntimeError.__init__"))
def exC (c_BuildError c_InvalidWord c_InvalidType c_InvalidLibrary c_InvalidProgram c_InvalidQuestion c_InvalidRoom c_InvalidDraft c_InvalidOperation c_ParseError c_UnknownWord c_NoProgram c_NothingToUndo c_TooMany c_Refused c_InvalidNumber : Addr) : ExN → Addr
  | .BuildError => c_BuildError
  | .InvalidWord => c_InvalidWord
  | .InvalidType => c_InvalidType
  | .InvalidLibrary => c_InvalidLibrary
  | .InvalidProgram => c_InvalidProgram
  | .InvalidQuestion => c_InvalidQuestion
  | .InvalidRoom => c_InvalidRoom
  | .InvalidDraft => c_InvalidDraft
  | .InvalidOperation => c_InvalidOperation
  | .ParseError => c_ParseError
  | .UnknownWord => c_UnknownWord
  | .NoProgram => c_NoProgram
  | .NothingToUndo => c_NothingToUndo
  | .TooMany => c_TooMany
  | .Refused => c_Refused
  | .InvalidNumber => c_InvalidNumber
def exAll : List ExN := [.BuildError, .InvalidWord, .InvalidType, .InvalidLibrary, .InvalidProgram, .InvalidQuestion, .InvalidRoom, .InvalidDraft, .InvalidOperation, .ParseError, .UnknownWord, .NoProgram, .NothingToUndo, .TooMany, .Refused, .InvalidNumber]
def btAll : List BtN := [.ValueError, .KeyError, .IndexError, .LookupError, .OverflowError, .ArithmeticError, .RuntimeError]
theorem ex_in (n : ExN) : n ∈ exAll := by cases n <;> decide
theorem bt_in (b : BtN) : b ∈ btAll := by cases b <;> simp [btAll]
def tabX (K : PySem.W.Frag) (C : ExN → Addr) : Bool := exAll.all fun n => exAll.all fun m => decide (PySem.W.subIn K (.ref (C n)) (.ref (C m)) = some (n.sub m))
def tabT (K : PySem.W.Frag) (C : ExN → Addr) : Bool := exAll.all fun n => btAll.all fun b => decide (PySem.W.subIn K (.ref (C n)) (.type b.nm) = some (n.subT b))
theorem exs_mk {K : PySem.W.Frag} {mg : Str → Option Value} {C : ExN → Addr} (g : ∀ n, mg n.nm = some (.ref (C n))) (o : ∀ n, OexB K (C n) n.ini) (tx : tabX K C = true) (tt : tabT K C = true) (ec : ∀ n, L2.ExcC K (C n))
    (plain : ∀ n, n.plain = true → PySem.W.excIn K (C n) [.type "ValueError", .type "Exception", .type "BaseException", .type "object"] "ValueError.__new__" = true) (str : ∀ n, n.plain = true → PySem.W.findIn K (.ref (C n)) "__str__" = some (some (.builtin "BaseException.__str__")))
    (fl : ∀ n, PySem.W.findIn K (.ref (C n)) n.fn = some none) (rd : ClX.CRead K (C .BuildError) (.type "type")) (ini : PySem.W.findCls K (.ref (C .BuildError)) (.type "type") "__init__" = some (.val (.builtin "ValueError.__init__")))
    (v_KeyError : PySem.W.findCls K (.type "KeyError") (.type "type") "__init__" = some (.val (.builtin "KeyError.__init__"))) (v_IndexError : PySem.W.findCls K (.type "IndexError") (.type "type") "__init__" = some (.val (.builtin "IndexError.__init__"))) (v_LookupError : PySem.W.findCls K (.type "LookupError") (.type "type") "__init__" = some (.val (.builtin "LookupError.__init__"))) (v_OverflowError : PySem.W.findCls K (.type "OverflowError") (.type "type") "__init__" = some (.val (.builtin "OverflowError.__init__"))) (v_ArithmeticError : PySem.W.findCls K (.type "ArithmeticError") (.type "type") "__init__" = some (.val (.builtin "ArithmeticError.__init__"))) (v_RuntimeError : PySem.W.findCls K (.type "RuntimeError") (.type "type") "__init__" = some (.val (.builtin "RuntimeError.__init__"))) : Exs K mg C := by
  have sub : ∀ n m, PySem.W.subIn K (.ref (C n)) (.ref (C m)) = some (n.sub m) := fun n m => of_decide_eq_true (List.all_eq_true.mp (List.all_eq_true.mp tx n (ex_in n)) m (ex_in m))
  have subT : ∀ n (b : BtN), PySem.W.subIn K (.ref (C n)) (.type b.nm) = some (n.subT b) := fun n b => of_decide_eq_true (List.all_eq_true.mp (List.all_eq_true.mp tt n (ex_in n)) b (bt_in b))
  refine ⟨g, o, fun n m => ?_, fun n b => ?_, ec, plain, str, fun n f e => by rw [← e]; exact fl n, rd, ini, v_KeyError, v_IndexError, v_LookupError, v_OverflowError, v_ArithmeticError, v_RuntimeError⟩
  · unfold PySem.W.kitOne
    by_cases e : C n = C m
    · rw [if_pos (by rw [e]; simp)]
      have z := sub n m
      rw [← e, sub n n] at z
      rw [← z]
      cases n <;> rfl
    · rw [if_neg (by simp; exact e)]
      obtain ⟨cd, hc, _⟩ := PySem.W.any_some (o m).hd
      show (if ((PySem.W.clsIn K (C m)).isSome && PySem.W.typeIn K (.ref (C m)) == some (.type "type")) = true then PySem.W.subIn K (.ref (C n)) (.ref (C m)) else none) = _
      rw [if_pos (by rw [hc, (o m).tyC]; rfl)]
      exact sub n m
  · have km : PySem.W.kitMeta b.nm = true := by cases b <;> decide +kernel
    unfold PySem.W.kitOne
    rw [if_neg (by simp)]
    show (if PySem.W.kitMeta b.nm = true then PySem.W.subIn K (.ref (C n)) (.type b.nm) else none) = _
    rw [if_pos km]
    exact subT n b
structure Txt (K : PySem.W.Frag) (mg : Str → Option Value) (C : ExN → Addr) : Prop where
  b_ArithmeticError : mg "ArithmeticError" = none
  b_IndexError : mg "IndexError" = none
  b_KeyError : mg "KeyError" = none
  b_LookupError : mg "LookupError" = none
  b_OverflowError : mg "OverflowError" = none
  b_RuntimeError : mg "RuntimeError" = none
  b_ValueError : mg "ValueError" = none
  b_abs : mg "abs" = none
  b_dict : mg "dict" = none
  b_int : mg "int" = none
  b_isinstance : mg "isinstance" = none
  b_len : mg "len" = none
  b_list : mg "list" = none
  b_max : mg "max" = none
  b_min : mg "min" = none
  b_range : mg "range" = none
  b_repr : mg "repr" = none
  b_str : mg "str" = none
  b_tuple : mg "tuple" = none
  e : Exs K mg C
set_option pp.maxSteps 3000
set_option pp.deepTerms false

end My
namespace My
open PySem PySem.Spec PyProof.Rows L2 TL
set_option pp.maxSteps 3000
set_option pp.deepTerms false
/-! ### a dict comprehension whose parts speak of the place where they stand -/
section
variable {X : Cx}
theorem pe_dcD {kx vx tg iter : Expr} {ifs : List Expr} {scope : Scope} {own : List (Str × Nat)} {pos : Pos} {wi : TI} {g : Dep TG} {tt : Dep TT} {tk tv : Dep TE} (hc : X.calm = true) (hN : X.N.Nodup) (hi : PI X tg iter wi) (ok : BlkOk X.N X.env.scope scope own)
    (hg : ∀ (s : Shared) (H : Hp) (C : Addr) (cl : List (Str × Addr)) (fp : List Addr), PG (X.blk s H scope (compEnvC scope cl C X.env) fp) tg (g s H C cl fp)) (ht : ∀ (s : Shared) (H : Hp) (C : Addr) (cl : List (Str × Addr)) (fp : List Addr), PTs (X.blk s H scope (compEnvC scope cl C X.env) fp) ifs (tt s H C cl fp))
    (hk : ∀ (s : Shared) (H : Hp) (C : Addr) (cl : List (Str × Addr)) (fp : List Addr), PE (X.blk s H scope (compEnvC scope cl C X.env) fp) kx (tk s H C cl fp))
    (he : ∀ (s : Shared) (H : Hp) (C : Addr) (cl : List (Str × Addr)) (fp : List Addr), PE (X.blk s H scope (compEnvC scope cl C X.env) fp) vx (tv s H C cl fp)) (hs : ∀ x, foldedSetIterable iter X.env x = pure x := by intro _; rfl)
    (eg : ∀ s H C cl fp, g s H C cl fp = g.at X := by intros; rfl) (et : ∀ s H C cl fp, tt s H C cl fp = tt.at X := by intros; rfl) (ek : ∀ s H C cl fp, tk s H C cl fp = tk.at X := by intros; rfl) (ev : ∀ s H C cl fp, tv s H C cl fp = tv.at X := by intros; rfl) :
    PE X (.DictComp kx vx [⟨tg, iter, ifs, 0⟩] scope pos) (tDc wi (g.at X) (tt.at X) (tk.at X) (tv.at X) (own.map (·.2))) :=
  pe_dc hc hN hi ok (fun s H C cl fp => eg s H C cl fp ▸ hg s H C cl fp) (fun s H C cl fp => et s H C cl fp ▸ ht s H C cl fp) (fun s H C cl fp => ek s H C cl fp ▸ hk s H C cl fp) (fun s H C cl fp => ev s H C cl fp ▸ he s H C cl fp) hs
end

section
variable {P : Program} {w : World} {K : PySem.W.Frag} {mg : Str → Option Value} {base : Heap} {C : ExN → Addr}
theorem ok__kept (T : Txt K mg C) {f : Addr} {fd : FuncData} (F : Fun K "_kept" "_kept" s__kept f fd) (M : mg "_kept" = some (.ref f)) (B : Binds K fd ["value"] []) : ∀ n : Nat, FnOk P w K mg base CX0 (1 + n) f fd ["value"] (spr__kept n K)
 := by
  have nd := sc__kept.nd
  have step : ∀ (k n : Nat) (sp' : Sp), FnOk P w K mg base CX0 k f fd ["value"] sp' → (∀ v d H Q, d.depth + 1 ≤ n → Dy (fun _ => True) H v d → (∀ w H', Same H H' → Dy (fun a => H a = none) H' w d → Q w H') → sp' [v] H Q E0) → FnOk P w K mg base CX0 (k + 1) f fd ["value"] (spr__kept n K) := fun k n sp' ih use => by
    have C_self : CalN P w K mg base "_kept" k ["value"] sp' := ⟨f, fd, ih, M, F.kp, B⟩
    refine F.ok (k := k) sc__kept (fun vs H Q E h => ?_) (fun cdv A outer s H vs Q E hr h => ?_)
    · obtain ⟨v, d, rfl, _⟩ := h
      rfl
    · obtain ⟨v, d, rfl, hd, dn, q⟩ := h
      refine ⟨_, (pss_cons (ps_if (pt_val (pe_callB call_isi (by rfl) T.b_isinstance (by decide +kernel) (pa_cons (pv 0) (pa_cons (pe_bltn (v := .ty "list") (u := .type "list") (by rfl) T.b_list (by decide +kernel) rfl) pa_nil)))) (pss_one (ps_ret (pe_lcD (own := [("one", 1)]) (by rfl) nd (pi_list (pv 0)) (blkOk_by (own := [("one", 1)]) (N := ["value", "one", "name"]) (sc := (defScope s__kept)) (by decide +kernel)) (fun _ _ _ _ _ => pg_name (i := 1) nd rfl (Or.inl rfl)) (fun _ _ _ _ _ => pts_nil) (fun _ _ _ _ _ => (pe_callN C_self (hr.mono (by first | decide | omega)) rfl (pa_cons (pv 1) pa_nil)))))) pss_nil)
      (pss_cons (ps_if (pt_val (pe_callB call_isi (by rfl) T.b_isinstance (by decide +kernel) (pa_cons (pv 0) (pa_cons (pe_bltn (v := .ty "tuple") (u := .type "tuple") (by rfl) T.b_tuple (by decide +kernel) rfl) pa_nil)))) (pss_one (ps_ret (pe_callTy call_tuple_of (by rfl) T.b_tuple (by decide +kernel) (pa_cons (pe_lcD (own := [("one", 1)]) (by rfl) nd (pi_tup (pv 0)) (blkOk_by (own := [("one", 1)]) (N := ["value", "one", "name"]) (sc := (defScope s__kept)) (by decide +kernel)) (fun _ _ _ _ _ => pg_name (i := 1) nd rfl (Or.inl rfl)) (fun _ _ _ _ _ => pts_nil) (fun _ _ _ _ _ => (pe_callN C_self (hr.mono (by first | decide | omega)) rfl (pa_cons (pv 1) pa_nil)))) pa_nil)))) pss_nil)
      (pss_cons (ps_if (pt_val (pe_callB call_isi (by rfl) T.b_isinstance (by decide +kernel) (pa_cons (pv 0) (pa_cons (pe_bltn (v := .ty "dict") (u := .type "dict") (by rfl) T.b_dict (by decide +kernel) rfl) pa_nil)))) (pss_one (ps_ret (pe_lock (pe_dcD (own := [("name", 2)]) (by rfl) nd (pi_keys (pv 0)) (blkOk_by (own := [("name", 2)]) (N := ["value", "one", "name"]) (sc := (defScope s__kept)) (by decide +kernel)) (fun _ _ _ _ _ => pg_name (i := 2) nd rfl (Or.inl rfl)) (fun _ _ _ _ _ => pts_nil) (fun _ _ _ _ _ => (pv 2)) (fun _ _ _ _ _ => (pe_callN C_self (hr.mono (by first | decide | omega)) rfl (pa_cons (pe_dget (by first | exact Nat.lt_of_le_of_lt (Nat.add_le_add_left (by decide : 1 ≤ 64) _) hr.units | exact Nat.lt_of_le_of_lt (Nat.add_le_add_left (by decide : 4 ≤ 64) _) hr.units | exact Nat.lt_of_le_of_lt (Nat.add_le_add_left (by decide : 7 ≤ 64) _) hr.units) (pv 0) (pv 2) (fun _ _ => rfl)) pa_nil))))))) pss_nil)
      (pss_one (ps_ret (pv 0)))))), ?_⟩
      rcases hd with hd | ⟨a, t, rfl, _, _, ⟨h1, h2⟩, rfl⟩
      · cases hd with
        | non =>
          refine ⟨.non, rfl, .non, .ty "list", .type "NoneType", .type "list", false, rfl, .ty _, .base .non, kit_ty (by decide +kernel), false, rfl, iteF (nx_go ?_)⟩
          dsimp only
          refine ⟨.non, rfl, .non, .ty "tuple", .type "NoneType", .type "tuple", false, rfl, .ty _, .base .non, kit_ty (by decide +kernel), false, rfl, iteF (nx_go ?_)⟩
          dsimp only
          refine ⟨.non, rfl, .non, .ty "dict", .type "NoneType", .type "dict", false, rfl, .ty _, .base .non, kit_ty (by decide +kernel), false, rfl, iteF (nx_go ?_)⟩
          dsimp only
          exact ⟨.non, rfl, q _ H (Same.refl H) (.inl (.non))⟩
        | bl b =>
          refine ⟨.bl b, rfl, .bl b, .ty "list", .type "bool", .type "list", false, rfl, .ty _, .base (.bl b), kit_ty (by decide +kernel), false, rfl, iteF (nx_go ?_)⟩
          dsimp only
          refine ⟨.bl b, rfl, .bl b, .ty "tuple", .type "bool", .type "tuple", false, rfl, .ty _, .base (.bl b), kit_ty (by decide +kernel), false, rfl, iteF (nx_go ?_)⟩
          dsimp only
          refine ⟨.bl b, rfl, .bl b, .ty "dict", .type "bool", .type "dict", false, rfl, .ty _, .base (.bl b), kit_ty (by decide +kernel), false, rfl, iteF (nx_go ?_)⟩
          dsimp only
          exact ⟨.bl b, rfl, q _ H (Same.refl H) (.inl (.bl b))⟩
        | int i =>
          refine ⟨.int i, rfl, .int i, .ty "list", .type "int", .type "list", false, rfl, .ty _, .base (.int i), kit_ty (by decide +kernel), false, rfl, iteF (nx_go ?_)⟩
          dsimp only
          refine ⟨.int i, rfl, .int i, .ty "tuple", .type "int", .type "tuple", false, rfl, .ty _, .base (.int i), kit_ty (by decide +kernel), false, rfl, iteF (nx_go ?_)⟩
          dsimp only
          refine ⟨.int i, rfl, .int i, .ty "dict", .type "int", .type "dict", false, rfl, .ty _, .base (.int i), kit_ty (by decide +kernel), false, rfl, iteF (nx_go ?_)⟩
          dsimp only
          exact ⟨.int i, rfl, q _ H (Same.refl H) (.inl (.int i))⟩
        | str x =>
          refine ⟨.str x, rfl, .str x, .ty "list", .type "str", .type "list", false, rfl, .ty _, .base (.str x), kit_ty (by decide +kernel), false, rfl, iteF (nx_go ?_)⟩
          dsimp only
          refine ⟨.str x, rfl, .str x, .ty "tuple", .type "str", .type "tuple", false, rfl, .ty _, .base (.str x), kit_ty (by decide +kernel), false, rfl, iteF (nx_go ?_)⟩
          dsimp only
          refine ⟨.str x, rfl, .str x, .ty "dict", .type "str", .type "dict", false, rfl, .ty _, .base (.str x), kit_ty (by decide +kernel), false, rfl, iteF (nx_go ?_)⟩
          dsimp only
          exact ⟨.str x, rfl, q _ H (Same.refl H) (.inl (.str x))⟩
        | @lst a xs ds len _ hl r =>
          refine ⟨.ref a, rfl, .ref a, .ty "list", .type "list", .type "list", true, rfl, .ty _, .base (.lst hl), kit_ty (by decide +kernel), true, rfl, iteT ?_⟩
          refine ⟨.ref a, rfl, a, rfl, ⟨_, SqL.of hl⟩, fun D hD => lc_list (xs := xs) (fun i H' => ∃ ys, H' D = some (.lst ys) ∧ DwAll (fun b => H b = none ∧ b ≠ D) H' ys (ds.take i) ∧ Same H H') ⟨[], upd_same, .nil, (Same.refl H).mut hD⟩ (fun i H' _ hP => by obtain ⟨_, _, _, s⟩ := hP; exact SqL.of (s _ _ hl)) (fun i y H' hy hP => ?_) (fun H' hP => ?_)⟩
          · obtain ⟨ys, h1, h2, s1⟩ := hP
            obtain ⟨dj, ed, hj⟩ := r.get hy
            have li := lt_of_get hy
            have ly := h2.len
            have ll := r.len
            rw [List.length_take] at ly
            refine ⟨rfl, tyes ?_⟩
            refine ⟨y, rfl, use y dj H' _ (by have := depth_mem ed; simp only [PyData.depth] at dn; omega) (.inl (hj.keep (fun a o _ e => s1 a o e) fun _ _ _ x => x)) fun w H2 s2 hw => ?_⟩
            have hw : Dw (fun a => H' a = none) H2 w dj := by
              rcases hw with hw | ⟨_, _, _, _, _, _, rfl⟩
              · exact hw
              · have := hj.flat
                simp only [PyData.hasDict] at this
                cases this
            refine ⟨ys, s2 _ _ h1, lt_line' (by omega), ys ++ [w], upd_same, ?_, (s1.trans s2).mut hD⟩
            rw [take_next ed]
            have off : ∀ {b}, H b = none → b ≠ D → True := fun _ _ => trivial
            refine (h2.keep (fun b o hb e => ?_) fun _ _ _ x => x).snoc (hw.keep (fun b o hb e => ?_) fun b o _ hb => ⟨?_, ?_⟩)
            · rw [upd_ne hb.2]
              exact s2 _ _ e
            · rw [upd_ne (fun z => by rw [z, h1] at hb; cases hb)]
              exact e
            · cases e : H b with
              | none => rfl
              | some u => rw [s1 _ _ e] at hb; cases hb
            · exact fun z => by rw [z, h1] at hb; cases hb
          · obtain ⟨ys, h1, h2, s1⟩ := hP
            have ly := h2.len
            have ll := r.len
            rw [ll, List.take_length] at h2 ly
            exact q (.ref D) H' s1 (.inl (.lst (by omega) hD h1 (h2.keep (fun _ _ _ e => e) fun _ _ _ x => x.1)))
        | @tup a xs ds len _ hl r =>
          refine ⟨.ref a, rfl, .ref a, .ty "list", .type "tuple", .type "list", false, rfl, .ty _, .base (.tup hl), kit_ty (by decide +kernel), false, rfl, iteF (nx_go ?_)⟩
          dsimp only
          refine ⟨.ref a, rfl, .ref a, .ty "tuple", .type "tuple", .type "tuple", true, rfl, .ty _, .base (.tup hl), kit_ty (by decide +kernel), true, rfl, iteT ?_⟩
          refine ⟨.ref a, rfl, a, rfl, ⟨_, SqT.of hl⟩, fun D hD => lc_tup (xs := xs) (fun i H' => ∃ ys, H' D = some (.lst ys) ∧ DwAll (fun b => H b = none ∧ b ≠ D) H' ys (ds.take i) ∧ Same H H') ⟨[], upd_same, .nil, (Same.refl H).mut hD⟩ (fun i H' _ hP => by obtain ⟨_, _, _, s⟩ := hP; exact SqT.of (s _ _ hl)) (fun i y H' hy hP => ?_) (fun H' hP => ?_)⟩
          · obtain ⟨ys, h1, h2, s1⟩ := hP
            obtain ⟨dj, ed, hj⟩ := r.get hy
            have li := lt_of_get hy
            have ly := h2.len
            have ll := r.len
            rw [List.length_take] at ly
            refine ⟨rfl, tyes ?_⟩
            refine ⟨y, rfl, use y dj H' _ (by have := depth_mem ed; simp only [PyData.depth] at dn; omega) (.inl (hj.keep (fun a o _ e => s1 a o e) fun _ _ _ x => x)) fun w H2 s2 hw => ?_⟩
            have hw : Dw (fun a => H' a = none) H2 w dj := by
              rcases hw with hw | ⟨_, _, _, _, _, _, rfl⟩
              · exact hw
              · have := hj.flat
                simp only [PyData.hasDict] at this
                cases this
            refine ⟨ys, s2 _ _ h1, lt_line' (by omega), ys ++ [w], upd_same, ?_, (s1.trans s2).mut hD⟩
            rw [take_next ed]
            have off : ∀ {b}, H b = none → b ≠ D → True := fun _ _ => trivial
            refine (h2.keep (fun b o hb e => ?_) fun _ _ _ x => x).snoc (hw.keep (fun b o hb e => ?_) fun b o _ hb => ⟨?_, ?_⟩)
            · rw [upd_ne hb.2]
              exact s2 _ _ e
            · rw [upd_ne (fun z => by rw [z, h1] at hb; cases hb)]
              exact e
            · cases e : H b with
              | none => rfl
              | some u => rw [s1 _ _ e] at hb; cases hb
            · exact fun z => by rw [z, h1] at hb; cases hb
          · obtain ⟨ys, h1, h2, s1⟩ := hP
            have ly := h2.len
            have ll := r.len
            rw [ll, List.take_length] at h2 ly
            refine ⟨D, ys, rfl, .inl ⟨SqL.of h1, fun l hl' => ?_⟩⟩
            have s2 := s1.new (o := .tup ys) hl'
            exact q (.ref l) _ s2 (.inl (.tup (by omega) (s1.free hl') upd_same (h2.keep (fun b o hb e => by rw [upd_ne (ne_of_none e hl')]; exact e) fun _ _ _ x => x.1)))
      · 
        refine ⟨.ref a, rfl, .ref a, .ty "list", .type "dict", .type "list", false, rfl, .ty _, .base (.dK h1), kit_ty (by decide +kernel), false, rfl, iteF (nx_go ?_)⟩
        dsimp only
        refine ⟨.ref a, rfl, .ref a, .ty "tuple", .type "dict", .type "tuple", false, rfl, .ty _, .base (.dK h1), kit_ty (by decide +kernel), false, rfl, iteF (nx_go ?_)⟩
        dsimp only
        refine ⟨.ref a, rfl, .ref a, .ty "dict", .type "dict", .type "dict", true, rfl, .ty _, .base (.dK h1), kit_ty (by decide +kernel), true, rfl, iteT ?_⟩
        refine ⟨a, _, h1, trivial, fun od => ?_⟩
        have nt : t ≠ a := fun e => by rw [e, h1] at h2; cases h2
        have f1 : upd H a (.frz od (.dK [((Sum.inr "a" : Key), V.ref t)])) a = some (.frz od (.dK [((Sum.inr "a" : Key), V.ref t)])) := upd_same
        have f2 : upd H a (.frz od (.dK [((Sum.inr "a" : Key), V.ref t)])) t = some (.tup []) := (upd_ne nt).trans h2
        have fo : ∀ b o, b ≠ a → H b = some o → upd H a (.frz od (.dK [((Sum.inr "a" : Key), V.ref t)])) b = some o := fun b o n e => (upd_ne n).trans e
        have fn : ∀ b, upd H a (.frz od (.dK [((Sum.inr "a" : Key), V.ref t)])) b = none → H b = none := fun b e => by
          by_cases z : b = a
          · rw [z, upd_same] at e; cases e
          · rw [upd_ne z] at e; exact e
        generalize upd H a (.frz od (.dK [((Sum.inr "a" : Key), V.ref t)])) = G at f1 f2 fo fn ⊢
        refine ⟨.ref a, rfl, a, od, rfl, .inl ⟨_, f1, fun D hD => dc_keys (kvs := [((Sum.inr "a" : Key), V.ref t)]) (fun i H' => (∃ w, H' D = some (.dK (if i = 0 then [] else [((Sum.inr "a" : Key), w)])) ∧ (i = 0 ∨ ∃ t2, w = .ref t2 ∧ H' t2 = some (.tup []) ∧ H t2 = none ∧ t2 ≠ D)) ∧ Same G H') ⟨⟨.non, by rw [upd_same]; rfl, .inl rfl⟩, (Same.refl G).mut hD⟩ (fun i H' _ hP => hP.2 _ _ f1) (fun i k v H' hy hP => ?_) (fun H' hP => ?_)⟩⟩
        · cases i with
          | succ i => cases hy
          | zero =>
          cases hy
          obtain ⟨⟨w0, hD1, _⟩, s1⟩ := hP
          refine ⟨rfl, tyes ?_⟩
          refine ⟨.str "a", rfl, .ref a, rfl, .str "a", rfl, a, .ref t, rfl, .inl ⟨_, Sum.inr "a", .inr ⟨od, s1 _ _ f1⟩, rfl, by simp [valV]⟩, use (.ref t) (.tuple []) H' _ (by simp only [PyData.depth, PyData.depthKv, PyData.depthAll] at dn ⊢; omega) (.inl (.tup (by decide) trivial (s1 _ _ f2) .nil)) fun w H2 s2 hw => ?_⟩
          rcases hw with hw | ⟨_, _, _, _, _, _, z⟩
          · cases hw with
            | @tup t2 xs _ _ hA hT r =>
              cases r
              have hA : H' t2 = none := hA
              refine ⟨[], Sum.inr "a", rfl, s2 _ _ hD1, by show 0 < sizeLine; decide, ⟨.ref t2, by rw [upd_same]; rfl, .inr ⟨t2, rfl, ?_, ?_, ?_⟩⟩, (s1.trans s2).mut hD⟩
              · rw [upd_ne (fun e => by rw [e, hD1] at hA; cases hA)]
                exact hT
              · cases e : H t2 with
                | none => rfl
                | some u =>
                  have ne : t2 ≠ a := fun e => by rw [e, s1 _ _ f1] at hA; cases hA
                  rw [s1 _ _ (fo _ _ ne e)] at hA
                  cases hA
              · exact fun e => by rw [e, hD1] at hA; cases hA
          · cases z
        · obtain ⟨⟨w, hD1, hw⟩, s1⟩ := hP
          rcases hw with z | ⟨t2, rfl, hT, hn, nD⟩
          · cases z
          have na : D ≠ a := fun e => by rw [e, f1] at hD; cases hD
          have nta : t2 ≠ a := fun e => by rw [e, h1] at hn; cases hn
          refine ⟨s1 _ _ f1, q (.ref D) _ (fun b o e => ?_) (.inr ⟨D, t2, rfl, fn _ hD, hn, ⟨(upd_ne na).trans hD1, (upd_ne nta).trans hT⟩, rfl⟩)⟩
          by_cases z : b = a
          · rw [z, h1] at e
            cases e
            rw [z, upd_same]
          · rw [upd_ne z]
            exact s1 _ _ (fo _ _ z e)
  intro n
  induction n with
  | zero => exact step 0 0 (fun _ _ _ _ => False) ⟨fun _ _ _ _ h => h.elim, fun _ _ _ _ _ _ _ _ _ _ _ _ _ h => h.elim⟩ fun _ d _ _ h => absurd h (by omega)
  | succ n ih => 
    have z := step (1 + n) (n + 1) (spr__kept n K) ih fun v d H Q hd hv q => ⟨v, d, rfl, hv, by omega, q⟩
    rw [show 1 + (n + 1) = 1 + n + 1 by omega]
    exact z
end


end My
namespace My
open PySem PySem.Spec PyProof.Rows L2 TL
set_option pp.maxSteps 3000
set_option pp.deepTerms false
/-! ### own exceptions made -/
def GoodD (d : PyData) : Prop := d.showable = true ∧ d.depth ≤ 5 ∧ d.shown.length ≤ 1000
def sp_exi (C : Addr) (i : String) (f : Str) : Sp := fun vs H Q _ => ∃ a v d, vs = [.ref a, v] ∧ H a = some (exo a C none) ∧ Dy (fun _ => True) H v d ∧ GoodD d ∧
  ∀ w e H', (∀ b o, b ≠ a → H b = some o → H' b = some o) → H' a = some (exo a C (some e)) → H' e = some (exd e [(f, w)]) → Dy (fun b => H b = none) H' w d → Q .non H'
section
variable {P : Program} {w : World} {K : PySem.W.Frag} {mg : Str → Option Value} {base : Heap} {C : ExN → Addr}
theorem ok_ParseError___init__ (T : Txt K mg C) (c__kept : CalN P w K mg base "_kept" 6 ["value"] (sp__kept K)) {f : Addr} {fd : FuncData} (F : Fun K "__init__" "ParseError.__init__" s_ParseError___init__ f fd) : FnOkG P w K mg base CX0 7 f fd ["self", "line"] (sp_exi (C .ParseError) (ExN.ini .ParseError) "line") := by
  have nd := sc_ParseError___init__.nd
  refine F.okG sc_ParseError___init__ (fun vs H Q E h => ?_) (fun cdv A outer s H vs Q E hr hG h => ?_)
  · obtain ⟨a, v, d, rfl, _⟩ := h
    rfl
  · obtain ⟨a, v, d, rfl, ha, hd, ⟨g1, g2, g3⟩, q⟩ := h
    refine ⟨_, (pss_cons (ps_expr (pe_exIC (pe_glob (v := .ref (C .BuildError)) rfl (T.e.g .BuildError) rfl) T.e.rd T.e.ini (by decide +kernel) (pa_cons (pv 0) (pa_cons (pe_joined (PJ.cons pe_str (PJ.cons (pe_fmtZ hG hr.units (pv 1)) PJ.nil))) pa_nil))))
      (pss_one (ps_osb (pv 0) (pe_callN c__kept (hr.mono (by first | decide | omega)) rfl (pa_cons (pv 1) pa_nil))))), ?_⟩
    refine ⟨.ref a, rfl, _, rfl, by decide +kernel, v, rfl, d, hd.dz, g1, by omega, Nat.le_trans g3 (by decide), d.shown, rfl, ?_, a, C .ParseError, [.str _], rfl, (by show 1 ≤ 1000; decide), T.e.o .ParseError, ha, ?_⟩
    · rw [PySem.Str.length_append]
      refine Nat.le_trans (Nat.add_le_add (Nat.le_refl _) g3) (by decide +kernel)
    refine ⟨v, rfl, v, d, rfl, hd, g2, fun w H1 s1 hw => ⟨.ref a, rfl, a, C .ParseError, _, rfl, T.e.o .ParseError, T.e.fld .ParseError _ rfl, s1 _ _ ha, fun dx hdx ne => ?_⟩⟩
    have h1 := s1 _ _ ha
    have na : ∀ b, H b = none → b ≠ a := fun b e z => by rw [z, ha] at e; cases e
    refine q w dx _ (fun b o nb e => ?_) upd_same ?_ (hw.keep (fun b o hb e => ?_) fun _ _ _ x => x)
    · rw [upd_ne nb, upd_ne (ne_of_none (s1 _ _ e) hdx)]
      exact s1 _ _ e
    · rw [upd_ne ne, upd_same]
    · rw [upd_ne (na b hb), upd_ne (ne_of_none e hdx)]
      exact e
theorem ok_UnknownWord___init__ (T : Txt K mg C) (c__kept : CalN P w K mg base "_kept" 6 ["value"] (sp__kept K)) {f : Addr} {fd : FuncData} (F : Fun K "__init__" "UnknownWord.__init__" s_UnknownWord___init__ f fd) : FnOkG P w K mg base CX0 7 f fd ["self", "asked"] (sp_exi (C .UnknownWord) (ExN.ini .UnknownWord) "asked") := by
  have nd := sc_UnknownWord___init__.nd
  refine F.okG sc_UnknownWord___init__ (fun vs H Q E h => ?_) (fun cdv A outer s H vs Q E hr hG h => ?_)
  · obtain ⟨a, v, d, rfl, _⟩ := h
    rfl
  · obtain ⟨a, v, d, rfl, ha, hd, ⟨g1, g2, g3⟩, q⟩ := h
    refine ⟨_, (pss_cons (ps_expr (pe_exI (pe_bltn (v := .ty "KeyError") (u := .type "KeyError") (by rfl) T.b_KeyError (by decide +kernel) rfl) (by kernel_rfl) (by decide +kernel) T.e.v_KeyError (by decide +kernel) (pa_cons (pv 0) (pa_cons (pe_joined (PJ.cons pe_str (PJ.cons (pe_fmtZ hG hr.units (pv 1)) PJ.nil))) pa_nil))))
      (pss_one (ps_osb (pv 0) (pe_callN c__kept (hr.mono (by first | decide | omega)) rfl (pa_cons (pv 1) pa_nil))))), ?_⟩
    refine ⟨.ref a, rfl, _, rfl, by decide +kernel, v, rfl, d, hd.dz, g1, by omega, Nat.le_trans g3 (by decide), d.shown, rfl, ?_, a, C .UnknownWord, [.str _], rfl, (by show 1 ≤ 1000; decide), T.e.o .UnknownWord, ha, ?_⟩
    · rw [PySem.Str.length_append]
      refine Nat.le_trans (Nat.add_le_add (Nat.le_refl _) g3) (by decide +kernel)
    refine ⟨v, rfl, v, d, rfl, hd, g2, fun w H1 s1 hw => ⟨.ref a, rfl, a, C .UnknownWord, _, rfl, T.e.o .UnknownWord, T.e.fld .UnknownWord _ rfl, s1 _ _ ha, fun dx hdx ne => ?_⟩⟩
    have h1 := s1 _ _ ha
    have na : ∀ b, H b = none → b ≠ a := fun b e z => by rw [z, ha] at e; cases e
    refine q w dx _ (fun b o nb e => ?_) upd_same ?_ (hw.keep (fun b o hb e => ?_) fun _ _ _ x => x)
    · rw [upd_ne nb, upd_ne (ne_of_none (s1 _ _ e) hdx)]
      exact s1 _ _ e
    · rw [upd_ne ne, upd_same]
    · rw [upd_ne (na b hb), upd_ne (ne_of_none e hdx)]
      exact e
theorem ok_NoProgram___init__ (T : Txt K mg C) (c__kept : CalN P w K mg base "_kept" 6 ["value"] (sp__kept K)) {f : Addr} {fd : FuncData} (F : Fun K "__init__" "NoProgram.__init__" s_NoProgram___init__ f fd) : FnOkG P w K mg base CX0 7 f fd ["self", "wanted"] (sp_exi (C .NoProgram) (ExN.ini .NoProgram) "wanted") := by
  have nd := sc_NoProgram___init__.nd
  refine F.okG sc_NoProgram___init__ (fun vs H Q E h => ?_) (fun cdv A outer s H vs Q E hr hG h => ?_)
  · obtain ⟨a, v, d, rfl, _⟩ := h
    rfl
  · obtain ⟨a, v, d, rfl, ha, hd, ⟨g1, g2, g3⟩, q⟩ := h
    refine ⟨_, (pss_cons (ps_expr (pe_exI (pe_bltn (v := .ty "LookupError") (u := .type "LookupError") (by rfl) T.b_LookupError (by decide +kernel) rfl) (by kernel_rfl) (by decide +kernel) T.e.v_LookupError (by decide +kernel) (pa_cons (pv 0) (pa_cons (pe_joined (PJ.cons pe_str (PJ.cons (pe_fmtZ hG hr.units (pv 1)) PJ.nil))) pa_nil))))
      (pss_one (ps_osb (pv 0) (pe_callN c__kept (hr.mono (by first | decide | omega)) rfl (pa_cons (pv 1) pa_nil))))), ?_⟩
    refine ⟨.ref a, rfl, _, rfl, by decide +kernel, v, rfl, d, hd.dz, g1, by omega, Nat.le_trans g3 (by decide), d.shown, rfl, ?_, a, C .NoProgram, [.str _], rfl, (by show 1 ≤ 1000; decide), T.e.o .NoProgram, ha, ?_⟩
    · rw [PySem.Str.length_append]
      refine Nat.le_trans (Nat.add_le_add (Nat.le_refl _) g3) (by decide +kernel)
    refine ⟨v, rfl, v, d, rfl, hd, g2, fun w H1 s1 hw => ⟨.ref a, rfl, a, C .NoProgram, _, rfl, T.e.o .NoProgram, T.e.fld .NoProgram _ rfl, s1 _ _ ha, fun dx hdx ne => ?_⟩⟩
    have h1 := s1 _ _ ha
    have na : ∀ b, H b = none → b ≠ a := fun b e z => by rw [z, ha] at e; cases e
    refine q w dx _ (fun b o nb e => ?_) upd_same ?_ (hw.keep (fun b o hb e => ?_) fun _ _ _ x => x)
    · rw [upd_ne nb, upd_ne (ne_of_none (s1 _ _ e) hdx)]
      exact s1 _ _ e
    · rw [upd_ne ne, upd_same]
    · rw [upd_ne (na b hb), upd_ne (ne_of_none e hdx)]
      exact e
theorem ok_NothingToUndo___init__ (T : Txt K mg C) (c__kept : CalN P w K mg base "_kept" 6 ["value"] (sp__kept K)) {f : Addr} {fd : FuncData} (F : Fun K "__init__" "NothingToUndo.__init__" s_NothingToUndo___init__ f fd) : FnOkG P w K mg base CX0 7 f fd ["self", "amount"] (sp_exi (C .NothingToUndo) (ExN.ini .NothingToUndo) "amount") := by
  have nd := sc_NothingToUndo___init__.nd
  refine F.okG sc_NothingToUndo___init__ (fun vs H Q E h => ?_) (fun cdv A outer s H vs Q E hr hG h => ?_)
  · obtain ⟨a, v, d, rfl, _⟩ := h
    rfl
  · obtain ⟨a, v, d, rfl, ha, hd, ⟨g1, g2, g3⟩, q⟩ := h
    refine ⟨_, (pss_cons (ps_expr (pe_exI (pe_bltn (v := .ty "IndexError") (u := .type "IndexError") (by rfl) T.b_IndexError (by decide +kernel) rfl) (by kernel_rfl) (by decide +kernel) T.e.v_IndexError (by decide +kernel) (pa_cons (pv 0) (pa_cons (pe_joined (PJ.cons pe_str (PJ.cons (pe_fmtZ hG hr.units (pv 1)) PJ.nil))) pa_nil))))
      (pss_one (ps_osb (pv 0) (pe_callN c__kept (hr.mono (by first | decide | omega)) rfl (pa_cons (pv 1) pa_nil))))), ?_⟩
    refine ⟨.ref a, rfl, _, rfl, by decide +kernel, v, rfl, d, hd.dz, g1, by omega, Nat.le_trans g3 (by decide), d.shown, rfl, ?_, a, C .NothingToUndo, [.str _], rfl, (by show 1 ≤ 1000; decide), T.e.o .NothingToUndo, ha, ?_⟩
    · rw [PySem.Str.length_append]
      refine Nat.le_trans (Nat.add_le_add (Nat.le_refl _) g3) (by decide +kernel)
    refine ⟨v, rfl, v, d, rfl, hd, g2, fun w H1 s1 hw => ⟨.ref a, rfl, a, C .NothingToUndo, _, rfl, T.e.o .NothingToUndo, T.e.fld .NothingToUndo _ rfl, s1 _ _ ha, fun dx hdx ne => ?_⟩⟩
    have h1 := s1 _ _ ha
    have na : ∀ b, H b = none → b ≠ a := fun b e z => by rw [z, ha] at e; cases e
    refine q w dx _ (fun b o nb e => ?_) upd_same ?_ (hw.keep (fun b o hb e => ?_) fun _ _ _ x => x)
    · rw [upd_ne nb, upd_ne (ne_of_none (s1 _ _ e) hdx)]
      exact s1 _ _ e
    · rw [upd_ne ne, upd_same]
    · rw [upd_ne (na b hb), upd_ne (ne_of_none e hdx)]
      exact e
theorem ok_TooMany___init__ (T : Txt K mg C) (c__kept : CalN P w K mg base "_kept" 6 ["value"] (sp__kept K)) {f : Addr} {fd : FuncData} (F : Fun K "__init__" "TooMany.__init__" s_TooMany___init__ f fd) : FnOkG P w K mg base CX0 7 f fd ["self", "limit"] (sp_exi (C .TooMany) (ExN.ini .TooMany) "limit") := by
  have nd := sc_TooMany___init__.nd
  refine F.okG sc_TooMany___init__ (fun vs H Q E h => ?_) (fun cdv A outer s H vs Q E hr hG h => ?_)
  · obtain ⟨a, v, d, rfl, _⟩ := h
    rfl
  · obtain ⟨a, v, d, rfl, ha, hd, ⟨g1, g2, g3⟩, q⟩ := h
    refine ⟨_, (pss_cons (ps_expr (pe_exI (pe_bltn (v := .ty "OverflowError") (u := .type "OverflowError") (by rfl) T.b_OverflowError (by decide +kernel) rfl) (by kernel_rfl) (by decide +kernel) T.e.v_OverflowError (by decide +kernel) (pa_cons (pv 0) (pa_cons (pe_joined (PJ.cons pe_str (PJ.cons (pe_fmtZ hG hr.units (pv 1)) PJ.nil))) pa_nil))))
      (pss_one (ps_osb (pv 0) (pe_callN c__kept (hr.mono (by first | decide | omega)) rfl (pa_cons (pv 1) pa_nil))))), ?_⟩
    refine ⟨.ref a, rfl, _, rfl, by decide +kernel, v, rfl, d, hd.dz, g1, by omega, Nat.le_trans g3 (by decide), d.shown, rfl, ?_, a, C .TooMany, [.str _], rfl, (by show 1 ≤ 1000; decide), T.e.o .TooMany, ha, ?_⟩
    · rw [PySem.Str.length_append]
      refine Nat.le_trans (Nat.add_le_add (Nat.le_refl _) g3) (by decide +kernel)
    refine ⟨v, rfl, v, d, rfl, hd, g2, fun w H1 s1 hw => ⟨.ref a, rfl, a, C .TooMany, _, rfl, T.e.o .TooMany, T.e.fld .TooMany _ rfl, s1 _ _ ha, fun dx hdx ne => ?_⟩⟩
    have h1 := s1 _ _ ha
    have na : ∀ b, H b = none → b ≠ a := fun b e z => by rw [z, ha] at e; cases e
    refine q w dx _ (fun b o nb e => ?_) upd_same ?_ (hw.keep (fun b o hb e => ?_) fun _ _ _ x => x)
    · rw [upd_ne nb, upd_ne (ne_of_none (s1 _ _ e) hdx)]
      exact s1 _ _ e
    · rw [upd_ne ne, upd_same]
    · rw [upd_ne (na b hb), upd_ne (ne_of_none e hdx)]
      exact e
theorem ok_Refused___init__ (T : Txt K mg C) (c__kept : CalN P w K mg base "_kept" 6 ["value"] (sp__kept K)) {f : Addr} {fd : FuncData} (F : Fun K "__init__" "Refused.__init__" s_Refused___init__ f fd) : FnOkG P w K mg base CX0 7 f fd ["self", "cause"] (sp_exi (C .Refused) (ExN.ini .Refused) "cause") := by
  have nd := sc_Refused___init__.nd
  refine F.okG sc_Refused___init__ (fun vs H Q E h => ?_) (fun cdv A outer s H vs Q E hr hG h => ?_)
  · obtain ⟨a, v, d, rfl, _⟩ := h
    rfl
  · obtain ⟨a, v, d, rfl, ha, hd, ⟨g1, g2, g3⟩, q⟩ := h
    refine ⟨_, (pss_cons (ps_expr (pe_exI (pe_bltn (v := .ty "ArithmeticError") (u := .type "ArithmeticError") (by rfl) T.b_ArithmeticError (by decide +kernel) rfl) (by kernel_rfl) (by decide +kernel) T.e.v_ArithmeticError (by decide +kernel) (pa_cons (pv 0) (pa_cons (pe_joined (PJ.cons pe_str (PJ.cons (pe_fmtZ hG hr.units (pv 1)) PJ.nil))) pa_nil))))
      (pss_one (ps_osb (pv 0) (pe_callN c__kept (hr.mono (by first | decide | omega)) rfl (pa_cons (pv 1) pa_nil))))), ?_⟩
    refine ⟨.ref a, rfl, _, rfl, by decide +kernel, v, rfl, d, hd.dz, g1, by omega, Nat.le_trans g3 (by decide), d.shown, rfl, ?_, a, C .Refused, [.str _], rfl, (by show 1 ≤ 1000; decide), T.e.o .Refused, ha, ?_⟩
    · rw [PySem.Str.length_append]
      refine Nat.le_trans (Nat.add_le_add (Nat.le_refl _) g3) (by decide +kernel)
    refine ⟨v, rfl, v, d, rfl, hd, g2, fun w H1 s1 hw => ⟨.ref a, rfl, a, C .Refused, _, rfl, T.e.o .Refused, T.e.fld .Refused _ rfl, s1 _ _ ha, fun dx hdx ne => ?_⟩⟩
    have h1 := s1 _ _ ha
    have na : ∀ b, H b = none → b ≠ a := fun b e z => by rw [z, ha] at e; cases e
    refine q w dx _ (fun b o nb e => ?_) upd_same ?_ (hw.keep (fun b o hb e => ?_) fun _ _ _ x => x)
    · rw [upd_ne nb, upd_ne (ne_of_none (s1 _ _ e) hdx)]
      exact s1 _ _ e
    · rw [upd_ne ne, upd_same]
    · rw [upd_ne (na b hb), upd_ne (ne_of_none e hdx)]
      exact e
theorem ok_InvalidNumber___init__ (T : Txt K mg C) (c__kept : CalN P w K mg base "_kept" 6 ["value"] (sp__kept K)) {f : Addr} {fd : FuncData} (F : Fun K "__init__" "InvalidNumber.__init__" s_InvalidNumber___init__ f fd) : FnOkG P w K mg base CX0 7 f fd ["self", "number"] (sp_exi (C .InvalidNumber) (ExN.ini .InvalidNumber) "number") := by
  have nd := sc_InvalidNumber___init__.nd
  refine F.okG sc_InvalidNumber___init__ (fun vs H Q E h => ?_) (fun cdv A outer s H vs Q E hr hG h => ?_)
  · obtain ⟨a, v, d, rfl, _⟩ := h
    rfl
  · obtain ⟨a, v, d, rfl, ha, hd, ⟨g1, g2, g3⟩, q⟩ := h
    refine ⟨_, (pss_cons (ps_expr (pe_exI (pe_bltn (v := .ty "RuntimeError") (u := .type "RuntimeError") (by rfl) T.b_RuntimeError (by decide +kernel) rfl) (by kernel_rfl) (by decide +kernel) T.e.v_RuntimeError (by decide +kernel) (pa_cons (pv 0) (pa_cons (pe_joined (PJ.cons pe_str (PJ.cons (pe_fmtZ hG hr.units (pv 1)) PJ.nil))) pa_nil))))
      (pss_one (ps_osb (pv 0) (pe_callN c__kept (hr.mono (by first | decide | omega)) rfl (pa_cons (pv 1) pa_nil))))), ?_⟩
    refine ⟨.ref a, rfl, _, rfl, by decide +kernel, v, rfl, d, hd.dz, g1, by omega, Nat.le_trans g3 (by decide), d.shown, rfl, ?_, a, C .InvalidNumber, [.str _], rfl, (by show 1 ≤ 1000; decide), T.e.o .InvalidNumber, ha, ?_⟩
    · rw [PySem.Str.length_append]
      refine Nat.le_trans (Nat.add_le_add (Nat.le_refl _) g3) (by decide +kernel)
    refine ⟨v, rfl, v, d, rfl, hd, g2, fun w H1 s1 hw => ⟨.ref a, rfl, a, C .InvalidNumber, _, rfl, T.e.o .InvalidNumber, T.e.fld .InvalidNumber _ rfl, s1 _ _ ha, fun dx hdx ne => ?_⟩⟩
    have h1 := s1 _ _ ha
    have na : ∀ b, H b = none → b ≠ a := fun b e z => by rw [z, ha] at e; cases e
    refine q w dx _ (fun b o nb e => ?_) upd_same ?_ (hw.keep (fun b o hb e => ?_) fun _ _ _ x => x)
    · rw [upd_ne nb, upd_ne (ne_of_none (s1 _ _ e) hdx)]
      exact s1 _ _ e
    · rw [upd_ne ne, upd_same]
    · rw [upd_ne (na b hb), upd_ne (ne_of_none e hdx)]
      exact e
end


end My
namespace My
open PySem PySem.Spec PyProof.Rows L2 TL
set_option pp.maxSteps 3000
set_option pp.deepTerms false
/-! ### what an error is -/
section
variable {P : Program} {w : World} {K : PySem.W.Frag} {mg : Str → Option Value} {base : Heap} {C : ExN → Addr}
def bs_law_kinds (n : ExN) : List Bool := [n.sub .InvalidWord, n.sub .InvalidType, n.sub .InvalidLibrary, n.sub .InvalidProgram, n.sub .InvalidQuestion, n.sub .InvalidRoom, n.sub .InvalidDraft, n.sub .InvalidOperation, n.sub .ParseError, n.sub .BuildError, n.subT .ValueError]
def _law_kindsT (n : ExN) : Str := Txt.join "" ((bs_law_kinds n).map fun b => if b = true then ("x" : Str) else ".")
def sp__law_kinds (C : ExN → Addr) : Sp := fun vs H Q _ => ∃ v n, vs = [v] ∧ IsE (C n) H v ∧ ∀ H', Same H H' → Q (.str (_law_kindsT n)) H'
theorem ok__law_kinds (T : Txt K mg C) {f : Addr} {fd : FuncData} (F : Fun K "_law_kinds" "_law_kinds" s__law_kinds f fd) : FnOkG P w K mg base CX0 1 f fd ["_law_error"] (sp__law_kinds C) := by
  have nd := sc__law_kinds.nd
  refine F.okG sc__law_kinds (fun vs H Q E h => ?_) (fun cdv A outer s H vs Q E hr hG h => ?_)
  · obtain ⟨v, n, rfl, _⟩ := h
    rfl
  · obtain ⟨v, n, rfl, hx, q⟩ := h
    refine ⟨_, (pss_cons (ps_set (i := 1) nd rfl (.inl rfl) (pe_lst (pa_cons (pe_callB call_isX (by rfl) T.b_isinstance (by decide +kernel) (pa_cons (pv 0) (pa_cons (pe_glob (v := .ref (C .InvalidWord)) rfl (T.e.g .InvalidWord) rfl) pa_nil))) (pa_cons (pe_callB call_isX (by rfl) T.b_isinstance (by decide +kernel) (pa_cons (pv 0) (pa_cons (pe_glob (v := .ref (C .InvalidType)) rfl (T.e.g .InvalidType) rfl) pa_nil))) (pa_cons (pe_callB call_isX (by rfl) T.b_isinstance (by decide +kernel) (pa_cons (pv 0) (pa_cons (pe_glob (v := .ref (C .InvalidLibrary)) rfl (T.e.g .InvalidLibrary) rfl) pa_nil))) pa_nil)))))
      (pss_cons (ps_set (i := 1) nd rfl (.inl rfl) (pe_op op_cat (pv 1) (pe_lst (pa_cons (pe_callB call_isX (by rfl) T.b_isinstance (by decide +kernel) (pa_cons (pv 0) (pa_cons (pe_glob (v := .ref (C .InvalidProgram)) rfl (T.e.g .InvalidProgram) rfl) pa_nil))) (pa_cons (pe_callB call_isX (by rfl) T.b_isinstance (by decide +kernel) (pa_cons (pv 0) (pa_cons (pe_glob (v := .ref (C .InvalidQuestion)) rfl (T.e.g .InvalidQuestion) rfl) pa_nil))) pa_nil)))))
      (pss_cons (ps_set (i := 1) nd rfl (.inl rfl) (pe_op op_cat (pv 1) (pe_lst (pa_cons (pe_callB call_isX (by rfl) T.b_isinstance (by decide +kernel) (pa_cons (pv 0) (pa_cons (pe_glob (v := .ref (C .InvalidRoom)) rfl (T.e.g .InvalidRoom) rfl) pa_nil))) (pa_cons (pe_callB call_isX (by rfl) T.b_isinstance (by decide +kernel) (pa_cons (pv 0) (pa_cons (pe_glob (v := .ref (C .InvalidDraft)) rfl (T.e.g .InvalidDraft) rfl) pa_nil))) (pa_cons (pe_callB call_isX (by rfl) T.b_isinstance (by decide +kernel) (pa_cons (pv 0) (pa_cons (pe_glob (v := .ref (C .InvalidOperation)) rfl (T.e.g .InvalidOperation) rfl) pa_nil))) pa_nil))))))
      (pss_cons (ps_set (i := 1) nd rfl (.inl rfl) (pe_op op_cat (pv 1) (pe_lst (pa_cons (pe_callB call_isX (by rfl) T.b_isinstance (by decide +kernel) (pa_cons (pv 0) (pa_cons (pe_glob (v := .ref (C .ParseError)) rfl (T.e.g .ParseError) rfl) pa_nil))) (pa_cons (pe_callB call_isX (by rfl) T.b_isinstance (by decide +kernel) (pa_cons (pv 0) (pa_cons (pe_glob (v := .ref (C .BuildError)) rfl (T.e.g .BuildError) rfl) pa_nil))) (pa_cons (pe_callB call_isX (by rfl) T.b_isinstance (by decide +kernel) (pa_cons (pv 0) (pa_cons (pe_bltn (v := .ty "ValueError") (u := .type "ValueError") (by rfl) T.b_ValueError (by decide +kernel) rfl) pa_nil))) pa_nil))))))
      (pss_one (ps_ret (pe_join pe_str (pe_lcD (own := [("_law_one", 2)]) (by rfl) nd (pi_list (pv 1)) (blkOk_by (own := [("_law_one", 2)]) (N := ["_law_error", "_law_told", "_law_one"]) (sc := (defScope s__law_kinds)) (by decide +kernel)) (fun _ _ _ _ _ => pg_name (i := 2) nd rfl (Or.inl rfl)) (fun _ _ _ _ _ => pts_nil) (fun _ _ _ _ _ => (pe_ifExp (pt_truth (pv 2) (by intro _; rfl)) pe_str pe_str)))))))))), ?_⟩
    have s0 := Same.refl H
    refine ⟨v, rfl, v, .ref (C .InvalidWord), C n, .ref (C .InvalidWord), _, rfl, hx, T.e.ec n, .own _, T.e.kx n .InvalidWord, v, rfl, v, .ref (C .InvalidType), C n, .ref (C .InvalidType), _, rfl, hx, T.e.ec n, .own _, T.e.kx n .InvalidType, v, rfl, v, .ref (C .InvalidLibrary), C n, .ref (C .InvalidLibrary), _, rfl, hx, T.e.ec n, .own _, T.e.kx n .InvalidLibrary, lt_line (by show 3 ≤ 1000000; decide), fun l1 hl1 => ?_⟩
    have fl1 : upd H l1 (.lst [.bl (n.sub .InvalidWord), .bl (n.sub .InvalidType), .bl (n.sub .InvalidLibrary)]) l1 = some (.lst [.bl (n.sub .InvalidWord), .bl (n.sub .InvalidType), .bl (n.sub .InvalidLibrary)]) := upd_same
    have s1 := s0.new (o := .lst [.bl (n.sub .InvalidWord), .bl (n.sub .InvalidType), .bl (n.sub .InvalidLibrary)]) hl1
    have hx := hx.same ((Same.refl H).new (o := .lst [.bl (n.sub .InvalidWord), .bl (n.sub .InvalidType), .bl (n.sub .InvalidLibrary)]) hl1)
    generalize upd H l1 (.lst [.bl (n.sub .InvalidWord), .bl (n.sub .InvalidType), .bl (n.sub .InvalidLibrary)]) = G1 at fl1 s1 hx ⊢
    refine asg_go2 ?_
    dsimp only [List.set]
    obtain ⟨m, em⟩ : ∃ m, m = l1 := ⟨_, rfl⟩
    rw [← em] at fl1 ⊢
    have fm := fl1
    clear em
    refine ⟨.ref m, rfl, v, rfl, v, .ref (C .InvalidProgram), C n, .ref (C .InvalidProgram), _, rfl, hx, T.e.ec n, .own _, T.e.kx n .InvalidProgram, v, rfl, v, .ref (C .InvalidQuestion), C n, .ref (C .InvalidQuestion), _, rfl, hx, T.e.ec n, .own _, T.e.kx n .InvalidQuestion, lt_line (by show 2 ≤ 1000000; decide), fun l2 hl2 => ?_⟩
    have fl2 : upd G1 l2 (.lst [.bl (n.sub .InvalidProgram), .bl (n.sub .InvalidQuestion)]) l2 = some (.lst [.bl (n.sub .InvalidProgram), .bl (n.sub .InvalidQuestion)]) := upd_same
    have s2 := s1.new (o := .lst [.bl (n.sub .InvalidProgram), .bl (n.sub .InvalidQuestion)]) hl2
    have hx := hx.same ((Same.refl G1).new (o := .lst [.bl (n.sub .InvalidProgram), .bl (n.sub .InvalidQuestion)]) hl2)
    have fm := (Same.refl G1).new (o := .lst [.bl (n.sub .InvalidProgram), .bl (n.sub .InvalidQuestion)]) hl2 _ _ fm
    generalize upd G1 l2 (.lst [.bl (n.sub .InvalidProgram), .bl (n.sub .InvalidQuestion)]) = G2 at fl2 s2 hx fm ⊢
    refine ⟨m, l2, _, _, rfl, rfl, fm, fl2, lt_line (by show 5 ≤ 1000000; decide), fun m3 hm3 => asg_go2 ?_⟩
    dsimp only [List.set]
    have fm3 := @upd_same G2 m3 (.lst ([.bl (n.sub .InvalidWord), .bl (n.sub .InvalidType), .bl (n.sub .InvalidLibrary)] ++ [.bl (n.sub .InvalidProgram), .bl (n.sub .InvalidQuestion)]))
    have s3 := s2.new (o := .lst ([.bl (n.sub .InvalidWord), .bl (n.sub .InvalidType), .bl (n.sub .InvalidLibrary)] ++ [.bl (n.sub .InvalidProgram), .bl (n.sub .InvalidQuestion)])) hm3
    have hx := hx.same ((Same.refl G2).new (o := .lst ([.bl (n.sub .InvalidWord), .bl (n.sub .InvalidType), .bl (n.sub .InvalidLibrary)] ++ [.bl (n.sub .InvalidProgram), .bl (n.sub .InvalidQuestion)])) hm3)
    generalize upd G2 m3 (.lst ([.bl (n.sub .InvalidWord), .bl (n.sub .InvalidType), .bl (n.sub .InvalidLibrary)] ++ [.bl (n.sub .InvalidProgram), .bl (n.sub .InvalidQuestion)])) = G3 at fm3 s3 hx ⊢
    clear fm
    obtain ⟨m, em⟩ : ∃ z, z = m3 := ⟨_, rfl⟩
    rw [← em] at fm3 ⊢
    have fm := fm3
    clear em
    refine ⟨.ref m, rfl, v, rfl, v, .ref (C .InvalidRoom), C n, .ref (C .InvalidRoom), _, rfl, hx, T.e.ec n, .own _, T.e.kx n .InvalidRoom, v, rfl, v, .ref (C .InvalidDraft), C n, .ref (C .InvalidDraft), _, rfl, hx, T.e.ec n, .own _, T.e.kx n .InvalidDraft, v, rfl, v, .ref (C .InvalidOperation), C n, .ref (C .InvalidOperation), _, rfl, hx, T.e.ec n, .own _, T.e.kx n .InvalidOperation, lt_line (by show 3 ≤ 1000000; decide), fun l4 hl4 => ?_⟩
    have fl4 : upd G3 l4 (.lst [.bl (n.sub .InvalidRoom), .bl (n.sub .InvalidDraft), .bl (n.sub .InvalidOperation)]) l4 = some (.lst [.bl (n.sub .InvalidRoom), .bl (n.sub .InvalidDraft), .bl (n.sub .InvalidOperation)]) := upd_same
    have s4 := s3.new (o := .lst [.bl (n.sub .InvalidRoom), .bl (n.sub .InvalidDraft), .bl (n.sub .InvalidOperation)]) hl4
    have hx := hx.same ((Same.refl G3).new (o := .lst [.bl (n.sub .InvalidRoom), .bl (n.sub .InvalidDraft), .bl (n.sub .InvalidOperation)]) hl4)
    have fm := (Same.refl G3).new (o := .lst [.bl (n.sub .InvalidRoom), .bl (n.sub .InvalidDraft), .bl (n.sub .InvalidOperation)]) hl4 _ _ fm
    generalize upd G3 l4 (.lst [.bl (n.sub .InvalidRoom), .bl (n.sub .InvalidDraft), .bl (n.sub .InvalidOperation)]) = G4 at fl4 s4 hx fm ⊢
    refine ⟨m, l4, _, _, rfl, rfl, fm, fl4, lt_line (by show 8 ≤ 1000000; decide), fun m5 hm5 => asg_go2 ?_⟩
    dsimp only [List.set]
    have fm5 := @upd_same G4 m5 (.lst (([.bl (n.sub .InvalidWord), .bl (n.sub .InvalidType), .bl (n.sub .InvalidLibrary)] ++ [.bl (n.sub .InvalidProgram), .bl (n.sub .InvalidQuestion)]) ++ [.bl (n.sub .InvalidRoom), .bl (n.sub .InvalidDraft), .bl (n.sub .InvalidOperation)]))
    have s5 := s4.new (o := .lst (([.bl (n.sub .InvalidWord), .bl (n.sub .InvalidType), .bl (n.sub .InvalidLibrary)] ++ [.bl (n.sub .InvalidProgram), .bl (n.sub .InvalidQuestion)]) ++ [.bl (n.sub .InvalidRoom), .bl (n.sub .InvalidDraft), .bl (n.sub .InvalidOperation)])) hm5
    have hx := hx.same ((Same.refl G4).new (o := .lst (([.bl (n.sub .InvalidWord), .bl (n.sub .InvalidType), .bl (n.sub .InvalidLibrary)] ++ [.bl (n.sub .InvalidProgram), .bl (n.sub .InvalidQuestion)]) ++ [.bl (n.sub .InvalidRoom), .bl (n.sub .InvalidDraft), .bl (n.sub .InvalidOperation)])) hm5)
    generalize upd G4 m5 (.lst (([.bl (n.sub .InvalidWord), .bl (n.sub .InvalidType), .bl (n.sub .InvalidLibrary)] ++ [.bl (n.sub .InvalidProgram), .bl (n.sub .InvalidQuestion)]) ++ [.bl (n.sub .InvalidRoom), .bl (n.sub .InvalidDraft), .bl (n.sub .InvalidOperation)])) = G5 at fm5 s5 hx ⊢
    clear fm
    obtain ⟨m, em⟩ : ∃ z, z = m5 := ⟨_, rfl⟩
    rw [← em] at fm5 ⊢
    have fm := fm5
    clear em
    refine ⟨.ref m, rfl, v, rfl, v, .ref (C .ParseError), C n, .ref (C .ParseError), _, rfl, hx, T.e.ec n, .own _, T.e.kx n .ParseError, v, rfl, v, .ref (C .BuildError), C n, .ref (C .BuildError), _, rfl, hx, T.e.ec n, .own _, T.e.kx n .BuildError, v, rfl, v, .ty "ValueError", C n, .type "ValueError", _, rfl, hx, T.e.ec n, .ty _, T.e.kt n .ValueError, lt_line (by show 3 ≤ 1000000; decide), fun l6 hl6 => ?_⟩
    have fl6 : upd G5 l6 (.lst [.bl (n.sub .ParseError), .bl (n.sub .BuildError), .bl (n.subT .ValueError)]) l6 = some (.lst [.bl (n.sub .ParseError), .bl (n.sub .BuildError), .bl (n.subT .ValueError)]) := upd_same
    have s6 := s5.new (o := .lst [.bl (n.sub .ParseError), .bl (n.sub .BuildError), .bl (n.subT .ValueError)]) hl6
    have hx := hx.same ((Same.refl G5).new (o := .lst [.bl (n.sub .ParseError), .bl (n.sub .BuildError), .bl (n.subT .ValueError)]) hl6)
    have fm := (Same.refl G5).new (o := .lst [.bl (n.sub .ParseError), .bl (n.sub .BuildError), .bl (n.subT .ValueError)]) hl6 _ _ fm
    generalize upd G5 l6 (.lst [.bl (n.sub .ParseError), .bl (n.sub .BuildError), .bl (n.subT .ValueError)]) = G6 at fl6 s6 hx fm ⊢
    refine ⟨m, l6, _, _, rfl, rfl, fm, fl6, lt_line (by show 11 ≤ 1000000; decide), fun m7 hm7 => asg_go2 ?_⟩
    dsimp only [List.set]
    have fm7 := @upd_same G6 m7 (.lst ((([.bl (n.sub .InvalidWord), .bl (n.sub .InvalidType), .bl (n.sub .InvalidLibrary)] ++ [.bl (n.sub .InvalidProgram), .bl (n.sub .InvalidQuestion)]) ++ [.bl (n.sub .InvalidRoom), .bl (n.sub .InvalidDraft), .bl (n.sub .InvalidOperation)]) ++ [.bl (n.sub .ParseError), .bl (n.sub .BuildError), .bl (n.subT .ValueError)]))
    have s7 := s6.new (o := .lst ((([.bl (n.sub .InvalidWord), .bl (n.sub .InvalidType), .bl (n.sub .InvalidLibrary)] ++ [.bl (n.sub .InvalidProgram), .bl (n.sub .InvalidQuestion)]) ++ [.bl (n.sub .InvalidRoom), .bl (n.sub .InvalidDraft), .bl (n.sub .InvalidOperation)]) ++ [.bl (n.sub .ParseError), .bl (n.sub .BuildError), .bl (n.subT .ValueError)])) hm7
    have hx := hx.same ((Same.refl G6).new (o := .lst ((([.bl (n.sub .InvalidWord), .bl (n.sub .InvalidType), .bl (n.sub .InvalidLibrary)] ++ [.bl (n.sub .InvalidProgram), .bl (n.sub .InvalidQuestion)]) ++ [.bl (n.sub .InvalidRoom), .bl (n.sub .InvalidDraft), .bl (n.sub .InvalidOperation)]) ++ [.bl (n.sub .ParseError), .bl (n.sub .BuildError), .bl (n.subT .ValueError)])) hm7)
    generalize upd G6 m7 (.lst ((([.bl (n.sub .InvalidWord), .bl (n.sub .InvalidType), .bl (n.sub .InvalidLibrary)] ++ [.bl (n.sub .InvalidProgram), .bl (n.sub .InvalidQuestion)]) ++ [.bl (n.sub .InvalidRoom), .bl (n.sub .InvalidDraft), .bl (n.sub .InvalidOperation)]) ++ [.bl (n.sub .ParseError), .bl (n.sub .BuildError), .bl (n.subT .ValueError)])) = G7 at fm7 s7 hx ⊢
    clear fm
    obtain ⟨m, em⟩ : ∃ z, z = m7 := ⟨_, rfl⟩
    rw [← em] at fm7 ⊢
    have fm := fm7
    clear em
    have fm : G7 m = some (.lst ((bs_law_kinds n).map V.bl)) := fm
    have lb : (bs_law_kinds n).length = 11 := rfl
    refine ⟨⟨_, rfl⟩, .ref m, rfl, m, rfl, ⟨_, SqL.of fm⟩, fun D hD => lc_list (xs := (bs_law_kinds n).map V.bl) (fun i H' => H' D = some (.lst ((((bs_law_kinds n).take i).map fun b => if b = true then ("x" : Str) else ".").map V.str)) ∧ Same G7 H') ⟨upd_same, (Same.refl _).mut hD⟩ (fun i H' _ hP => SqL.of (hP.2 _ _ fm)) (fun i y H' hy hP => ?_) (fun H' hP => ?_)⟩
    · obtain ⟨hD1, s1⟩ := hP
      rw [List.getElem?_map] at hy
      obtain ⟨b, eb, rfl⟩ := Option.map_eq_some_iff.mp hy
      have li := lt_of_get eb
      refine ⟨rfl, tyes ?_⟩
      refine ⟨.bl b, rfl, b, rfl, ?_⟩
      cases b with
      | true => exact iteT ⟨_, hD1, lt_line' (by rw [List.length_map, List.length_map, List.length_take]; omega), by rw [upd_same, take_next eb, List.map_append, List.map_append]; rfl, s1.mut hD⟩
      | false => exact iteF ⟨_, hD1, lt_line' (by rw [List.length_map, List.length_map, List.length_take]; omega), by rw [upd_same, take_next eb, List.map_append, List.map_append]; rfl, s1.mut hD⟩
    · obtain ⟨hD1, s1⟩ := hP
      rw [List.length_map, List.take_length] at hD1
      refine ⟨"", D, _, rfl, rfl, .inl (SqL.of hD1), ?_, q _ (s7.trans s1)⟩
      cases n <;> decide +kernel
def bs_law_others (n : ExN) : List Bool := [n.sub .UnknownWord, n.sub .NoProgram, n.sub .NothingToUndo, n.sub .TooMany, n.sub .Refused, n.sub .InvalidNumber, n.subT .KeyError, n.subT .IndexError, n.subT .LookupError, n.subT .OverflowError, n.subT .ArithmeticError, n.subT .RuntimeError]
def _law_othersT (n : ExN) : Str := Txt.join "" ((bs_law_others n).map fun b => if b = true then ("x" : Str) else ".")
def sp__law_others (C : ExN → Addr) : Sp := fun vs H Q _ => ∃ v n, vs = [v] ∧ IsE (C n) H v ∧ ∀ H', Same H H' → Q (.str (_law_othersT n)) H'
theorem ok__law_others (T : Txt K mg C) {f : Addr} {fd : FuncData} (F : Fun K "_law_others" "_law_others" s__law_others f fd) : FnOkG P w K mg base CX0 1 f fd ["_law_error"] (sp__law_others C) := by
  have nd := sc__law_others.nd
  refine F.okG sc__law_others (fun vs H Q E h => ?_) (fun cdv A outer s H vs Q E hr hG h => ?_)
  · obtain ⟨v, n, rfl, _⟩ := h
    rfl
  · obtain ⟨v, n, rfl, hx, q⟩ := h
    refine ⟨_, (pss_cons (ps_set (i := 1) nd rfl (.inl rfl) (pe_lst (pa_cons (pe_callB call_isX (by rfl) T.b_isinstance (by decide +kernel) (pa_cons (pv 0) (pa_cons (pe_glob (v := .ref (C .UnknownWord)) rfl (T.e.g .UnknownWord) rfl) pa_nil))) (pa_cons (pe_callB call_isX (by rfl) T.b_isinstance (by decide +kernel) (pa_cons (pv 0) (pa_cons (pe_glob (v := .ref (C .NoProgram)) rfl (T.e.g .NoProgram) rfl) pa_nil))) (pa_cons (pe_callB call_isX (by rfl) T.b_isinstance (by decide +kernel) (pa_cons (pv 0) (pa_cons (pe_glob (v := .ref (C .NothingToUndo)) rfl (T.e.g .NothingToUndo) rfl) pa_nil))) pa_nil)))))
      (pss_cons (ps_set (i := 1) nd rfl (.inl rfl) (pe_op op_cat (pv 1) (pe_lst (pa_cons (pe_callB call_isX (by rfl) T.b_isinstance (by decide +kernel) (pa_cons (pv 0) (pa_cons (pe_glob (v := .ref (C .TooMany)) rfl (T.e.g .TooMany) rfl) pa_nil))) (pa_cons (pe_callB call_isX (by rfl) T.b_isinstance (by decide +kernel) (pa_cons (pv 0) (pa_cons (pe_glob (v := .ref (C .Refused)) rfl (T.e.g .Refused) rfl) pa_nil))) (pa_cons (pe_callB call_isX (by rfl) T.b_isinstance (by decide +kernel) (pa_cons (pv 0) (pa_cons (pe_glob (v := .ref (C .InvalidNumber)) rfl (T.e.g .InvalidNumber) rfl) pa_nil))) pa_nil))))))
      (pss_cons (ps_set (i := 1) nd rfl (.inl rfl) (pe_op op_cat (pv 1) (pe_lst (pa_cons (pe_callB call_isX (by rfl) T.b_isinstance (by decide +kernel) (pa_cons (pv 0) (pa_cons (pe_bltn (v := .ty "KeyError") (u := .type "KeyError") (by rfl) T.b_KeyError (by decide +kernel) rfl) pa_nil))) (pa_cons (pe_callB call_isX (by rfl) T.b_isinstance (by decide +kernel) (pa_cons (pv 0) (pa_cons (pe_bltn (v := .ty "IndexError") (u := .type "IndexError") (by rfl) T.b_IndexError (by decide +kernel) rfl) pa_nil))) (pa_cons (pe_callB call_isX (by rfl) T.b_isinstance (by decide +kernel) (pa_cons (pv 0) (pa_cons (pe_bltn (v := .ty "LookupError") (u := .type "LookupError") (by rfl) T.b_LookupError (by decide +kernel) rfl) pa_nil))) pa_nil))))))
      (pss_cons (ps_set (i := 1) nd rfl (.inl rfl) (pe_op op_cat (pv 1) (pe_lst (pa_cons (pe_callB call_isX (by rfl) T.b_isinstance (by decide +kernel) (pa_cons (pv 0) (pa_cons (pe_bltn (v := .ty "OverflowError") (u := .type "OverflowError") (by rfl) T.b_OverflowError (by decide +kernel) rfl) pa_nil))) (pa_cons (pe_callB call_isX (by rfl) T.b_isinstance (by decide +kernel) (pa_cons (pv 0) (pa_cons (pe_bltn (v := .ty "ArithmeticError") (u := .type "ArithmeticError") (by rfl) T.b_ArithmeticError (by decide +kernel) rfl) pa_nil))) pa_nil)))))
      (pss_one (ps_ret (pe_join pe_str (pe_lcD (own := [("_law_one", 2)]) (by rfl) nd (pi_list (pe_op op_cat (pv 1) (pe_lst (pa_cons (pe_callB call_isX (by rfl) T.b_isinstance (by decide +kernel) (pa_cons (pv 0) (pa_cons (pe_bltn (v := .ty "RuntimeError") (u := .type "RuntimeError") (by rfl) T.b_RuntimeError (by decide +kernel) rfl) pa_nil))) pa_nil)))) (blkOk_by (own := [("_law_one", 2)]) (N := ["_law_error", "_law_told", "_law_one"]) (sc := (defScope s__law_others)) (by decide +kernel)) (fun _ _ _ _ _ => pg_name (i := 2) nd rfl (Or.inl rfl)) (fun _ _ _ _ _ => pts_nil) (fun _ _ _ _ _ => (pe_ifExp (pt_truth (pv 2) (by intro _; rfl)) pe_str pe_str)))))))))), ?_⟩
    have s0 := Same.refl H
    refine ⟨v, rfl, v, .ref (C .UnknownWord), C n, .ref (C .UnknownWord), _, rfl, hx, T.e.ec n, .own _, T.e.kx n .UnknownWord, v, rfl, v, .ref (C .NoProgram), C n, .ref (C .NoProgram), _, rfl, hx, T.e.ec n, .own _, T.e.kx n .NoProgram, v, rfl, v, .ref (C .NothingToUndo), C n, .ref (C .NothingToUndo), _, rfl, hx, T.e.ec n, .own _, T.e.kx n .NothingToUndo, lt_line (by show 3 ≤ 1000000; decide), fun l1 hl1 => ?_⟩
    have fl1 : upd H l1 (.lst [.bl (n.sub .UnknownWord), .bl (n.sub .NoProgram), .bl (n.sub .NothingToUndo)]) l1 = some (.lst [.bl (n.sub .UnknownWord), .bl (n.sub .NoProgram), .bl (n.sub .NothingToUndo)]) := upd_same
    have s1 := s0.new (o := .lst [.bl (n.sub .UnknownWord), .bl (n.sub .NoProgram), .bl (n.sub .NothingToUndo)]) hl1
    have hx := hx.same ((Same.refl H).new (o := .lst [.bl (n.sub .UnknownWord), .bl (n.sub .NoProgram), .bl (n.sub .NothingToUndo)]) hl1)
    generalize upd H l1 (.lst [.bl (n.sub .UnknownWord), .bl (n.sub .NoProgram), .bl (n.sub .NothingToUndo)]) = G1 at fl1 s1 hx ⊢
    refine asg_go2 ?_
    dsimp only [List.set]
    obtain ⟨m, em⟩ : ∃ m, m = l1 := ⟨_, rfl⟩
    rw [← em] at fl1 ⊢
    have fm := fl1
    clear em
    refine ⟨.ref m, rfl, v, rfl, v, .ref (C .TooMany), C n, .ref (C .TooMany), _, rfl, hx, T.e.ec n, .own _, T.e.kx n .TooMany, v, rfl, v, .ref (C .Refused), C n, .ref (C .Refused), _, rfl, hx, T.e.ec n, .own _, T.e.kx n .Refused, v, rfl, v, .ref (C .InvalidNumber), C n, .ref (C .InvalidNumber), _, rfl, hx, T.e.ec n, .own _, T.e.kx n .InvalidNumber, lt_line (by show 3 ≤ 1000000; decide), fun l2 hl2 => ?_⟩
    have fl2 : upd G1 l2 (.lst [.bl (n.sub .TooMany), .bl (n.sub .Refused), .bl (n.sub .InvalidNumber)]) l2 = some (.lst [.bl (n.sub .TooMany), .bl (n.sub .Refused), .bl (n.sub .InvalidNumber)]) := upd_same
    have s2 := s1.new (o := .lst [.bl (n.sub .TooMany), .bl (n.sub .Refused), .bl (n.sub .InvalidNumber)]) hl2
    have hx := hx.same ((Same.refl G1).new (o := .lst [.bl (n.sub .TooMany), .bl (n.sub .Refused), .bl (n.sub .InvalidNumber)]) hl2)
    have fm := (Same.refl G1).new (o := .lst [.bl (n.sub .TooMany), .bl (n.sub .Refused), .bl (n.sub .InvalidNumber)]) hl2 _ _ fm
    generalize upd G1 l2 (.lst [.bl (n.sub .TooMany), .bl (n.sub .Refused), .bl (n.sub .InvalidNumber)]) = G2 at fl2 s2 hx fm ⊢
    refine ⟨m, l2, _, _, rfl, rfl, fm, fl2, lt_line (by show 6 ≤ 1000000; decide), fun m3 hm3 => asg_go2 ?_⟩
    dsimp only [List.set]
    have fm3 := @upd_same G2 m3 (.lst ([.bl (n.sub .UnknownWord), .bl (n.sub .NoProgram), .bl (n.sub .NothingToUndo)] ++ [.bl (n.sub .TooMany), .bl (n.sub .Refused), .bl (n.sub .InvalidNumber)]))
    have s3 := s2.new (o := .lst ([.bl (n.sub .UnknownWord), .bl (n.sub .NoProgram), .bl (n.sub .NothingToUndo)] ++ [.bl (n.sub .TooMany), .bl (n.sub .Refused), .bl (n.sub .InvalidNumber)])) hm3
    have hx := hx.same ((Same.refl G2).new (o := .lst ([.bl (n.sub .UnknownWord), .bl (n.sub .NoProgram), .bl (n.sub .NothingToUndo)] ++ [.bl (n.sub .TooMany), .bl (n.sub .Refused), .bl (n.sub .InvalidNumber)])) hm3)
    generalize upd G2 m3 (.lst ([.bl (n.sub .UnknownWord), .bl (n.sub .NoProgram), .bl (n.sub .NothingToUndo)] ++ [.bl (n.sub .TooMany), .bl (n.sub .Refused), .bl (n.sub .InvalidNumber)])) = G3 at fm3 s3 hx ⊢
    clear fm
    obtain ⟨m, em⟩ : ∃ z, z = m3 := ⟨_, rfl⟩
    rw [← em] at fm3 ⊢
    have fm := fm3
    clear em
    refine ⟨.ref m, rfl, v, rfl, v, .ty "KeyError", C n, .type "KeyError", _, rfl, hx, T.e.ec n, .ty _, T.e.kt n .KeyError, v, rfl, v, .ty "IndexError", C n, .type "IndexError", _, rfl, hx, T.e.ec n, .ty _, T.e.kt n .IndexError, v, rfl, v, .ty "LookupError", C n, .type "LookupError", _, rfl, hx, T.e.ec n, .ty _, T.e.kt n .LookupError, lt_line (by show 3 ≤ 1000000; decide), fun l4 hl4 => ?_⟩
    have fl4 : upd G3 l4 (.lst [.bl (n.subT .KeyError), .bl (n.subT .IndexError), .bl (n.subT .LookupError)]) l4 = some (.lst [.bl (n.subT .KeyError), .bl (n.subT .IndexError), .bl (n.subT .LookupError)]) := upd_same
    have s4 := s3.new (o := .lst [.bl (n.subT .KeyError), .bl (n.subT .IndexError), .bl (n.subT .LookupError)]) hl4
    have hx := hx.same ((Same.refl G3).new (o := .lst [.bl (n.subT .KeyError), .bl (n.subT .IndexError), .bl (n.subT .LookupError)]) hl4)
    have fm := (Same.refl G3).new (o := .lst [.bl (n.subT .KeyError), .bl (n.subT .IndexError), .bl (n.subT .LookupError)]) hl4 _ _ fm
    generalize upd G3 l4 (.lst [.bl (n.subT .KeyError), .bl (n.subT .IndexError), .bl (n.subT .LookupError)]) = G4 at fl4 s4 hx fm ⊢
    refine ⟨m, l4, _, _, rfl, rfl, fm, fl4, lt_line (by show 9 ≤ 1000000; decide), fun m5 hm5 => asg_go2 ?_⟩
    dsimp only [List.set]
    have fm5 := @upd_same G4 m5 (.lst (([.bl (n.sub .UnknownWord), .bl (n.sub .NoProgram), .bl (n.sub .NothingToUndo)] ++ [.bl (n.sub .TooMany), .bl (n.sub .Refused), .bl (n.sub .InvalidNumber)]) ++ [.bl (n.subT .KeyError), .bl (n.subT .IndexError), .bl (n.subT .LookupError)]))
    have s5 := s4.new (o := .lst (([.bl (n.sub .UnknownWord), .bl (n.sub .NoProgram), .bl (n.sub .NothingToUndo)] ++ [.bl (n.sub .TooMany), .bl (n.sub .Refused), .bl (n.sub .InvalidNumber)]) ++ [.bl (n.subT .KeyError), .bl (n.subT .IndexError), .bl (n.subT .LookupError)])) hm5
    have hx := hx.same ((Same.refl G4).new (o := .lst (([.bl (n.sub .UnknownWord), .bl (n.sub .NoProgram), .bl (n.sub .NothingToUndo)] ++ [.bl (n.sub .TooMany), .bl (n.sub .Refused), .bl (n.sub .InvalidNumber)]) ++ [.bl (n.subT .KeyError), .bl (n.subT .IndexError), .bl (n.subT .LookupError)])) hm5)
    generalize upd G4 m5 (.lst (([.bl (n.sub .UnknownWord), .bl (n.sub .NoProgram), .bl (n.sub .NothingToUndo)] ++ [.bl (n.sub .TooMany), .bl (n.sub .Refused), .bl (n.sub .InvalidNumber)]) ++ [.bl (n.subT .KeyError), .bl (n.subT .IndexError), .bl (n.subT .LookupError)])) = G5 at fm5 s5 hx ⊢
    clear fm
    obtain ⟨m, em⟩ : ∃ z, z = m5 := ⟨_, rfl⟩
    rw [← em] at fm5 ⊢
    have fm := fm5
    clear em
    refine ⟨.ref m, rfl, v, rfl, v, .ty "OverflowError", C n, .type "OverflowError", _, rfl, hx, T.e.ec n, .ty _, T.e.kt n .OverflowError, v, rfl, v, .ty "ArithmeticError", C n, .type "ArithmeticError", _, rfl, hx, T.e.ec n, .ty _, T.e.kt n .ArithmeticError, lt_line (by show 2 ≤ 1000000; decide), fun l6 hl6 => ?_⟩
    have fl6 : upd G5 l6 (.lst [.bl (n.subT .OverflowError), .bl (n.subT .ArithmeticError)]) l6 = some (.lst [.bl (n.subT .OverflowError), .bl (n.subT .ArithmeticError)]) := upd_same
    have s6 := s5.new (o := .lst [.bl (n.subT .OverflowError), .bl (n.subT .ArithmeticError)]) hl6
    have hx := hx.same ((Same.refl G5).new (o := .lst [.bl (n.subT .OverflowError), .bl (n.subT .ArithmeticError)]) hl6)
    have fm := (Same.refl G5).new (o := .lst [.bl (n.subT .OverflowError), .bl (n.subT .ArithmeticError)]) hl6 _ _ fm
    generalize upd G5 l6 (.lst [.bl (n.subT .OverflowError), .bl (n.subT .ArithmeticError)]) = G6 at fl6 s6 hx fm ⊢
    refine ⟨m, l6, _, _, rfl, rfl, fm, fl6, lt_line (by show 11 ≤ 1000000; decide), fun m7 hm7 => asg_go2 ?_⟩
    dsimp only [List.set]
    have fm7 := @upd_same G6 m7 (.lst ((([.bl (n.sub .UnknownWord), .bl (n.sub .NoProgram), .bl (n.sub .NothingToUndo)] ++ [.bl (n.sub .TooMany), .bl (n.sub .Refused), .bl (n.sub .InvalidNumber)]) ++ [.bl (n.subT .KeyError), .bl (n.subT .IndexError), .bl (n.subT .LookupError)]) ++ [.bl (n.subT .OverflowError), .bl (n.subT .ArithmeticError)]))
    have s7 := s6.new (o := .lst ((([.bl (n.sub .UnknownWord), .bl (n.sub .NoProgram), .bl (n.sub .NothingToUndo)] ++ [.bl (n.sub .TooMany), .bl (n.sub .Refused), .bl (n.sub .InvalidNumber)]) ++ [.bl (n.subT .KeyError), .bl (n.subT .IndexError), .bl (n.subT .LookupError)]) ++ [.bl (n.subT .OverflowError), .bl (n.subT .ArithmeticError)])) hm7
    have hx := hx.same ((Same.refl G6).new (o := .lst ((([.bl (n.sub .UnknownWord), .bl (n.sub .NoProgram), .bl (n.sub .NothingToUndo)] ++ [.bl (n.sub .TooMany), .bl (n.sub .Refused), .bl (n.sub .InvalidNumber)]) ++ [.bl (n.subT .KeyError), .bl (n.subT .IndexError), .bl (n.subT .LookupError)]) ++ [.bl (n.subT .OverflowError), .bl (n.subT .ArithmeticError)])) hm7)
    generalize upd G6 m7 (.lst ((([.bl (n.sub .UnknownWord), .bl (n.sub .NoProgram), .bl (n.sub .NothingToUndo)] ++ [.bl (n.sub .TooMany), .bl (n.sub .Refused), .bl (n.sub .InvalidNumber)]) ++ [.bl (n.subT .KeyError), .bl (n.subT .IndexError), .bl (n.subT .LookupError)]) ++ [.bl (n.subT .OverflowError), .bl (n.subT .ArithmeticError)])) = G7 at fm7 s7 hx ⊢
    clear fm
    obtain ⟨m, em⟩ : ∃ z, z = m7 := ⟨_, rfl⟩
    rw [← em] at fm7 ⊢
    have fm := fm7
    clear em
    refine ⟨⟨_, rfl⟩, .ref m, rfl, v, rfl, v, .ty "RuntimeError", C n, .type "RuntimeError", _, rfl, hx, T.e.ec n, .ty _, T.e.kt n .RuntimeError, lt_line (by show 1 ≤ 1000000; decide), fun l8 hl8 => ?_⟩
    have fl8 : upd G7 l8 (.lst [.bl (n.subT .RuntimeError)]) l8 = some (.lst [.bl (n.subT .RuntimeError)]) := upd_same
    have s8 := s7.new (o := .lst [.bl (n.subT .RuntimeError)]) hl8
    have hx := hx.same ((Same.refl G7).new (o := .lst [.bl (n.subT .RuntimeError)]) hl8)
    have fm := (Same.refl G7).new (o := .lst [.bl (n.subT .RuntimeError)]) hl8 _ _ fm
    generalize upd G7 l8 (.lst [.bl (n.subT .RuntimeError)]) = G8 at fl8 s8 hx fm ⊢
    refine ⟨m, l8, _, _, rfl, rfl, fm, fl8, lt_line (by show 12 ≤ 1000000; decide), fun m9 hm9 => ?_⟩
    have fm9 := @upd_same G8 m9 (.lst (((([.bl (n.sub .UnknownWord), .bl (n.sub .NoProgram), .bl (n.sub .NothingToUndo)] ++ [.bl (n.sub .TooMany), .bl (n.sub .Refused), .bl (n.sub .InvalidNumber)]) ++ [.bl (n.subT .KeyError), .bl (n.subT .IndexError), .bl (n.subT .LookupError)]) ++ [.bl (n.subT .OverflowError), .bl (n.subT .ArithmeticError)]) ++ [.bl (n.subT .RuntimeError)]))
    have s9 := s8.new (o := .lst (((([.bl (n.sub .UnknownWord), .bl (n.sub .NoProgram), .bl (n.sub .NothingToUndo)] ++ [.bl (n.sub .TooMany), .bl (n.sub .Refused), .bl (n.sub .InvalidNumber)]) ++ [.bl (n.subT .KeyError), .bl (n.subT .IndexError), .bl (n.subT .LookupError)]) ++ [.bl (n.subT .OverflowError), .bl (n.subT .ArithmeticError)]) ++ [.bl (n.subT .RuntimeError)])) hm9
    have hx := hx.same ((Same.refl G8).new (o := .lst (((([.bl (n.sub .UnknownWord), .bl (n.sub .NoProgram), .bl (n.sub .NothingToUndo)] ++ [.bl (n.sub .TooMany), .bl (n.sub .Refused), .bl (n.sub .InvalidNumber)]) ++ [.bl (n.subT .KeyError), .bl (n.subT .IndexError), .bl (n.subT .LookupError)]) ++ [.bl (n.subT .OverflowError), .bl (n.subT .ArithmeticError)]) ++ [.bl (n.subT .RuntimeError)])) hm9)
    generalize upd G8 m9 (.lst (((([.bl (n.sub .UnknownWord), .bl (n.sub .NoProgram), .bl (n.sub .NothingToUndo)] ++ [.bl (n.sub .TooMany), .bl (n.sub .Refused), .bl (n.sub .InvalidNumber)]) ++ [.bl (n.subT .KeyError), .bl (n.subT .IndexError), .bl (n.subT .LookupError)]) ++ [.bl (n.subT .OverflowError), .bl (n.subT .ArithmeticError)]) ++ [.bl (n.subT .RuntimeError)])) = G9 at fm9 s9 hx ⊢
    clear fm
    obtain ⟨m, em⟩ : ∃ z, z = m9 := ⟨_, rfl⟩
    rw [← em] at fm9 ⊢
    have fm := fm9
    clear em
    have fm : G9 m = some (.lst ((bs_law_others n).map V.bl)) := fm
    have lb : (bs_law_others n).length = 12 := rfl
    refine ⟨m, rfl, ⟨_, SqL.of fm⟩, fun D hD => lc_list (xs := (bs_law_others n).map V.bl) (fun i H' => H' D = some (.lst ((((bs_law_others n).take i).map fun b => if b = true then ("x" : Str) else ".").map V.str)) ∧ Same G9 H') ⟨upd_same, (Same.refl _).mut hD⟩ (fun i H' _ hP => SqL.of (hP.2 _ _ fm)) (fun i y H' hy hP => ?_) (fun H' hP => ?_)⟩
    · obtain ⟨hD1, s1⟩ := hP
      rw [List.getElem?_map] at hy
      obtain ⟨b, eb, rfl⟩ := Option.map_eq_some_iff.mp hy
      have li := lt_of_get eb
      refine ⟨rfl, tyes ?_⟩
      refine ⟨.bl b, rfl, b, rfl, ?_⟩
      cases b with
      | true => exact iteT ⟨_, hD1, lt_line' (by rw [List.length_map, List.length_map, List.length_take]; omega), by rw [upd_same, take_next eb, List.map_append, List.map_append]; rfl, s1.mut hD⟩
      | false => exact iteF ⟨_, hD1, lt_line' (by rw [List.length_map, List.length_map, List.length_take]; omega), by rw [upd_same, take_next eb, List.map_append, List.map_append]; rfl, s1.mut hD⟩
    · obtain ⟨hD1, s1⟩ := hP
      rw [List.length_map, List.take_length] at hD1
      refine ⟨"", D, _, rfl, rfl, .inl (SqL.of hD1), ?_, q _ (s9.trans s1)⟩
      cases n <;> decide +kernel
end


end My
namespace My
open PySem PySem.Spec PyProof.Rows L2 TL
set_option pp.maxSteps 3000
set_option pp.deepTerms false
theorem intBits_le (x : Int) {n : Nat} (h : x.natAbs < 2 ^ n) (h0 : 0 < n) : Builtin.Int.intBits x ≤ n := by
  have e := PySem.Flt.log2_lt_of h0 h
  unfold Builtin.Int.intBits
  split <;> omega
section
variable {P : Program} {w : World} {K : PySem.W.Frag} {mg : Str → Option Value} {base : Heap}
theorem ok__law_roll (T : Txt K mg C) {f : Addr} {fd : FuncData} (F : Fun K "_law_roll" "_law_roll" s__law_roll f fd) : FnOkG P w K mg base CX0 1 f fd ["_law_dice_here", "_law_total"] (sp__law_roll K) := by
  have nd := sc__law_roll.nd
  refine F.okG sc__law_roll (fun vs H Q E h => ?_) (fun cdv A outer s H vs Q E hr hG h => ?_)
  · obtain ⟨d, n, rfl, _⟩ := h
    rfl
  · obtain ⟨d, n, rfl, ⟨a, b, c, hd⟩, h0, h1, q⟩ := h
    refine ⟨_, (pss_cons (ps_if (pt_cmpR op_gt (pe_ix ix_list (pv 0) pe_int (fun _ _ => rfl)) pe_int (nomark _)) (pss_cons (ps_set (i := 2) nd rfl (.inl rfl) (pe_op op_mod (pe_callTy call_int1 (by rfl) T.b_int (by decide +kernel) (pa_cons (pe_ix ix_list (pv 0) pe_int (fun _ _ => rfl)) pa_nil)) (pv 1)))
      (pss_cons (ps_asg (pe_op op_fdiv (pe_ix ix_list (pv 0) pe_int (fun _ _ => rfl)) (pv 1)) (pg_sub (pv 0) pe_int set_list))
      (pss_one (ps_ret (pv 2))))) pss_nil)
      (pss_cons (ps_asg (pe_op op_add (pe_ix ix_list (pv 0) pe_int (fun _ _ => rfl)) pe_int) (pg_sub (pv 0) pe_int set_list))
      (pss_cons (ps_set (i := 3) nd rfl (.inl rfl) (pe_op op_mod (pe_callTy call_int1 (by rfl) T.b_int (by decide +kernel) (pa_cons (pe_op op_add (pe_ix ix_list (pv 0) pe_int (fun _ _ => rfl)) (pe_op op_mul pe_int (pe_ix ix_list (pv 0) pe_int (fun _ _ => rfl)))) pa_nil)) pe_int))
      (pss_cons (ps_set (i := 4) nd rfl (.inl rfl) (pe_op op_add (pe_op op_mul (pe_op op_mod (pe_callTy call_int1 (by rfl) T.b_int (by decide +kernel) (pa_cons (pe_op op_mul (pv 3) (pv 3)) pa_nil)) pe_int) (pv 3)) (pe_op op_mul pe_int (pe_ix ix_list (pv 0) pe_int (fun _ _ => rfl)))))
      (pss_cons (ps_set (i := 4) nd rfl (.inl rfl) (pe_op op_mod (pe_callTy call_int1 (by rfl) T.b_int (by decide +kernel) (pa_cons (pv 4) pa_nil)) pe_int))
      (pss_one (ps_ret (pe_op op_mod (pe_callTy call_int1 (by rfl) T.b_int (by decide +kernel) (pa_cons (pe_op op_fdiv (pv 4) pe_int) pa_nil)) (pv 1))))))))), ?_⟩
    have g0 : SqL K H d [.int a, .int b, .int c] := SqL.of hd
    refine ⟨.ref d, rfl, d, _, 0, _, rfl, rfl, g0, rfl, a, 0, rfl, rfl, _, rfl, ?_⟩
    refine ite2 (fun _ => ?_) (fun _ => ?_)
    · refine ⟨.ref d, rfl, d, _, 0, _, rfl, rfl, g0, rfl, .inl ⟨a, rfl, .int n, rfl, a, n, rfl, rfl, h0, ?_⟩⟩
      refine ⟨.ref d, rfl, d, _, 0, _, rfl, rfl, g0, rfl, .int n, rfl, a, n, rfl, rfl, ⟨h0, h1⟩, ?_⟩
      refine ⟨.ref d, rfl, d, _, 0, 0, rfl, rfl, hd, rfl, ?_⟩
      refine ⟨.int (a % n), rfl, ?_⟩
      exact q _ _ (Int.emod_nonneg _ (by omega)) (Int.emod_lt_of_pos _ h0) Ext.set ⟨_, _, _, upd_same⟩
    · refine ⟨.ref d, rfl, d, _, 2, _, rfl, rfl, g0, rfl, c, 1, rfl, rfl, ?_⟩
      refine ⟨.ref d, rfl, d, _, 2, 2, rfl, rfl, hd, rfl, ?_⟩
      have g2 : SqL K (upd H d (.lst [.int a, .int b, .int (c + 1)])) d [.int a, .int b, .int (c + 1)] := SqL.of upd_same
      refine ⟨.ref d, rfl, d, _, 1, _, rfl, rfl, g2, rfl, .ref d, rfl, d, _, 2, _, rfl, rfl, g2, rfl, 998244293, c + 1, rfl, rfl, .inl ⟨by decide, by decide⟩, b, _, rfl, rfl, ?_⟩
      refine .inl ⟨_, rfl, _, _, rfl, rfl, (show (0 : Int) < 2305843009213693951 by decide), ?_⟩
      have x0 : 0 ≤ (b + 998244293 * (c + 1)) % 2305843009213693951 := Int.emod_nonneg _ (by decide)
      have x1 : (b + 998244293 * (c + 1)) % 2305843009213693951 < 2305843009213693951 := Int.emod_lt_of_pos _ (by decide)
      have xm : -(2 ^ 64 : Int) < (b + 998244293 * (c + 1)) % 2305843009213693951 ∧ (b + 998244293 * (c + 1)) % 2305843009213693951 < 2 ^ 64 := ⟨by omega, by omega⟩
      refine ⟨_, rfl, _, rfl, _, _, rfl, rfl, .inl xm, .inl ⟨_, rfl, _, _, rfl, rfl, (show (0 : Int) < 2305843009213693921 by decide), ?_⟩⟩
      refine ⟨_, rfl, _, _, rfl, rfl, .inr xm, ?_⟩
      refine ⟨.ref d, rfl, d, _, 2, _, rfl, rfl, g2, rfl, 9413, c + 1, rfl, rfl, .inl ⟨by decide, by decide⟩, _, _, rfl, rfl, ?_⟩
      refine ⟨_, rfl, .inl ⟨_, rfl, _, _, rfl, rfl, (show (0 : Int) < 2305843009213693669 by decide), ?_⟩⟩
      refine ⟨_, rfl, _, _, rfl, rfl, ⟨(show (0 : Int) < 8192 by decide), (show (8192 : Int) < 1073741824 by decide)⟩, .inl ⟨_, rfl, .int n, rfl, _, n, rfl, rfl, h0, ?_⟩⟩
      exact q _ _ (Int.emod_nonneg _ (by omega)) (Int.emod_lt_of_pos _ h0) Ext.set ⟨_, _, _, upd_same⟩
theorem ok__law_pick (T : Txt K mg C) (c__law_roll : Cal P w K mg base "_law_roll" 1 ["_law_dice_here", "_law_total"] (sp__law_roll K)) {f : Addr} {fd : FuncData} (F : Fun K "_law_pick" "_law_pick" s__law_pick f fd) : FnOkG P w K mg base CX0 2 f fd ["_law_dice_here", "_law_items"] (sp__law_pick K) := by
  have nd := sc__law_pick.nd
  refine F.okG sc__law_pick (fun vs H Q E h => ?_) (fun cdv A outer s H vs Q E hr hG h => ?_)
  · obtain ⟨d, l, xs, rfl, _⟩ := h
    rfl
  · obtain ⟨d, l, xs, rfl, hd, hl, ne, xne, hz, q⟩ := h
    refine ⟨_, (pss_one (ps_ret (pe_ix ix_list (pv 1) (pe_callC c__law_roll (hr.mono (by first | decide | omega)) hG rfl (pa_cons (pv 0) (pa_cons (pe_callB call_len (by rfl) T.b_len (by decide +kernel) (pa_cons (pv 1) pa_nil)) pa_nil))) (fun _ _ => rfl)))), ?_⟩
    have h1 : 0 < xs.length := List.length_pos_iff.mpr xne
    refine ⟨.ref l, rfl, .ref d, rfl, .ref l, rfl, .ref l, xs.length, rfl, .inl ⟨xs, hl, rfl⟩, ?_⟩
    refine ⟨d, (xs.length : Int), rfl, hd, by omega, by omega, fun r H' r0 r1 e dd => ?_⟩
    have hr' : r.toNat < xs.length := by omega
    have er : r = (r.toNat : Int) := by omega
    refine ⟨l, xs, r, xs[r.toNat], rfl, rfl, sql_ext e ne hl, ?_, ?_⟩
    · have g := atI_nat (List.getElem?_eq_getElem hr')
      rw [← er] at g
      exact g
    · exact q _ _ (List.getElem_mem hr') e dd
end

section
variable {P : Program} {w : World} {K : PySem.W.Frag} {mg : Str → Option Value} {base : Heap}
theorem ok__law_dice (T : Txt K mg C) {f : Addr} {fd : FuncData} (F : Fun K "_law_dice" "_law_dice" s__law_dice f fd) : FnOkG P w K mg base CX0 1 f fd ["_law_script", "_law_spot"] (sp__law_dice K) := by
  have nd := sc__law_dice.nd
  refine F.okG sc__law_dice (fun vs H Q E h => ?_) (fun cdv A outer s H vs Q E hr hG h => ?_)
  · obtain ⟨a, ns, i, rfl, _⟩ := h
    rfl
  · obtain ⟨a, ns, i', rfl, hS, hi0, hi, q⟩ := h
    obtain ⟨i, rfl⟩ := Int.eq_ofNat_of_zero_le hi0
    refine ⟨_, (pss_cons (ps_set (i := 2) nd rfl (.inl rfl) (pe_op op_add (pe_op op_mul pe_int (pv 1)) pe_int))
      (pss_cons (ps_if (pt_cmpR op_lt (pv 1) (pe_callB call_len (by rfl) T.b_len (by decide +kernel) (pa_cons (pv 0) pa_nil)) (nomark _)) (pss_one (ps_set (i := 2) nd rfl (.inl rfl) (pe_ix ix_list (pv 0) (pv 1) (fun _ _ => rfl)))) pss_nil)
      (pss_cons (ps_set (i := 3) nd rfl (.inl rfl) (pe_op op_mod (pe_callTy call_int1 (by rfl) T.b_int (by decide +kernel) (pa_cons (pe_callB call_abs (by rfl) T.b_abs (by decide +kernel) (pa_cons (pv 2) pa_nil)) pa_nil)) (pe_op op_powW (pe_op op_powW pe_int pe_int) pe_int)))
      (pss_cons (ps_set (i := 4) nd rfl (.inl rfl) (pe_op op_add (pe_op op_add (pe_op op_add (pe_op op_mul (pe_op op_mod (pe_callTy call_int1 (by rfl) T.b_int (by decide +kernel) (pa_cons (pv 3) pa_nil)) pe_int) pe_int) (pe_op op_mul pe_int (pv 1))) (pe_op op_mul pe_int (pe_callTy call_int1 (by rfl) T.b_int (by decide +kernel) (pa_cons (pe_cmpR op_lt (pv 2) pe_int (nomark _)) pa_nil)))) pe_int))
      (pss_one (ps_ret (pe_lst (pa_cons (pe_callB (call_max2 rfl) (by rfl) T.b_max (by decide +kernel) (pa_cons pe_int (pa_cons (pe_op op_sub (pv 3) (pe_op op_powW pe_int pe_int)) pa_nil))) (pa_cons (pe_op op_mod (pe_callTy call_int1 (by rfl) T.b_int (by decide +kernel) (pa_cons (pv 4) pa_nil)) pe_int) (pa_cons pe_int pa_nil)))))))))), ?_⟩
    refine ⟨.int i, rfl, _, _, rfl, rfl, .inl ⟨by decide, by decide⟩, _, _, rfl, rfl, ?_⟩
    refine ⟨.int i, rfl, .ref a, rfl, .ref a, _, rfl, .inl ⟨_, hS, rfl⟩, _, _, rfl, rfl, _, rfl, ?_⟩
    have p1 : (0 : Int) < (10 ^ 60) ^ 10 := by decide +kernel
    have p2 : (0 : Int) < 2305843009213693669 := by decide
    refine ite2 (fun hlt => ?_) (fun _ => ?_)
    · have hlt' : i < ns.length := by
        have := of_decide_eq_true hlt
        rw [List.length_map] at this
        omega
      refine ⟨.ref a, rfl, .int i, rfl, a, _, _, .int ns[i], rfl, rfl, hS, atI_nat (by rw [List.getElem?_map, List.getElem?_eq_getElem hlt']; rfl), ?_⟩
      refine ⟨_, rfl, _, rfl, .inl ⟨_, rfl, 10, 60, rfl, rfl, ⟨by decide, by decide +kernel⟩, _, 10, rfl, rfl, ⟨by decide, by decide +kernel⟩, _, _, rfl, rfl, p1, ?_⟩⟩
      refine ⟨_, rfl, .inl ⟨_, rfl, _, _, rfl, rfl, p2, _, _, rfl, rfl, .inr ⟨by decide, by decide⟩, .int i, rfl, _, _, rfl, rfl, .inl ⟨by decide, by decide⟩, _, _, rfl, rfl, ?_⟩⟩
      refine ⟨_, rfl, _, _, rfl, rfl, .inr ⟨_, rfl, _, _, rfl, rfl, .inl ⟨by decide, by decide⟩, _, _, rfl, rfl, _, _, rfl, rfl, ?_⟩⟩
      refine ⟨_, rfl, 10, 18, rfl, rfl, ⟨by decide, by decide +kernel⟩, _, _, rfl, rfl, _, _, rfl, _, rfl, .inl ⟨_, rfl, _, _, rfl, rfl, p2, by show 3 ≤ sizeLine; decide, fun p hp => q p _ hp ⟨_, _, _, upd_same⟩⟩⟩
    · refine ⟨_, rfl, _, rfl, .inl ⟨_, rfl, 10, 60, rfl, rfl, ⟨by decide, by decide +kernel⟩, _, 10, rfl, rfl, ⟨by decide, by decide +kernel⟩, _, _, rfl, rfl, p1, ?_⟩⟩
      refine ⟨_, rfl, .inl ⟨_, rfl, _, _, rfl, rfl, p2, _, _, rfl, rfl, .inr ⟨by decide, by decide⟩, .int i, rfl, _, _, rfl, rfl, .inl ⟨by decide, by decide⟩, _, _, rfl, rfl, ?_⟩⟩
      refine ⟨_, rfl, _, _, rfl, rfl, .inr ⟨_, rfl, _, _, rfl, rfl, .inl ⟨by decide, by decide⟩, _, _, rfl, rfl, _, _, rfl, rfl, ?_⟩⟩
      refine ⟨_, rfl, 10, 18, rfl, rfl, ⟨by decide, by decide +kernel⟩, _, _, rfl, rfl, _, _, rfl, _, rfl, .inl ⟨_, rfl, _, _, rfl, rfl, p2, by show 3 ≤ sizeLine; decide, fun p hp => q p _ hp ⟨_, _, _, upd_same⟩⟩⟩
end


end My
namespace My
open PySem PySem.Spec PyProof.Rows L2 TL
set_option pp.maxSteps 3000
set_option pp.deepTerms false
/-! ### what is carried on -/
theorem exq_l {e C t : Addr} {xs : List V} : exq e C t ≠ .lst xs := fun z => by
  have z' : HO.ext _ = HO.lst xs := z
  cases z'
theorem exo_l {e C : Addr} {d : Option Addr} {xs : List V} : exo e C d ≠ .lst xs := fun z => by
  have z' : HO.ext _ = HO.lst xs := z
  cases z'
theorem exd_l {e : Addr} {fs : List (Str × V)} {xs : List V} : exd e fs ≠ .lst xs := fun z => by
  have z' : HO.ext _ = HO.lst xs := z
  cases z'
/-- all but lists stays -/
def NL (H H' : Hp) : Prop := ∀ a o, (∀ xs, o ≠ .lst xs) → H a = some o → H' a = some o
theorem NL.refl (H : Hp) : NL H H := fun _ _ _ e => e
theorem NL.trans {H H1 H2 : Hp} (a : NL H H1) (b : NL H1 H2) : NL H H2 := fun x o n e => b x o n (a x o n e)
theorem NL.same {H H1 H2 : Hp} (a : NL H H1) (s : Same H1 H2) : NL H H2 := fun x o n e => s x o (a x o n e)
theorem NL.new {H H1 : Hp} (a : NL H H1) {p : Addr} {o : HO} (h : H1 p = none) : NL H (upd H1 p o) := fun x u n e => by
  rw [upd_ne (ne_of_none (a x u n e) h)]
  exact a x u n e
theorem NL.set {H H1 : Hp} (a : NL H H1) {p : Addr} {xs : List V} {o : HO} (h : H1 p = some (.lst xs)) : NL H (upd H1 p o) := fun x u n e => by
  have z := a x u n e
  rw [upd_ne (fun q => by rw [q, h] at z; exact n xs (Option.some.inj z).symm)]
  exact z
theorem NL.roll {H H1 H2 : Hp} {d : Addr} (a : NL H H1) (D : IsDice H1 d) (e : Ext d H1 H2) : NL H H2 := fun x u n q => by
  have z := a x u n q
  obtain ⟨_, _, _, hd⟩ := D
  exact e x u (fun y => by rw [y, hd] at z; exact n _ (Option.some.inj z).symm) z
theorem at_nd {H : Hp} {d a : Addr} {o : HO} (D : IsDice H d) (h : H a = some o) (n : ∀ xs, o ≠ .lst xs) : a ≠ d := fun e => by
  obtain ⟨_, _, _, hd⟩ := D
  rw [e, hd] at h
  exact n _ (Option.some.inj h).symm
/-- an exception with one text -/
def ExA (C : ExN → Addr) (H : Hp) (x : Str) (v : V) (n : ExN) : Prop := ∃ a t, v = .ref a ∧ H a = some (exq a (C n) t) ∧ H t = some (.tup [.str x])
theorem ExA.nl {C : ExN → Addr} {H H' : Hp} {x : Str} {v : V} {n : ExN} (h : ExA C H x v n) (s : NL H H') : ExA C H' x v n := by
  obtain ⟨a, t, e, h1, h2⟩ := h
  exact ⟨a, t, e, s _ _ (fun _ => exq_l) h1, s _ _ (fun _ z => nomatch z) h2⟩
theorem ExA.is {C : ExN → Addr} {H : Hp} {x : Str} {v : V} {n : ExN} (h : ExA C H x v n) : IsE (C n) H v := by
  obtain ⟨a, t, e, h1, h2⟩ := h
  exact ⟨a, e, .inl ⟨t, h1⟩⟩
theorem IsE.nl {C : Addr} {H H' : Hp} {v : V} (s : NL H H') (h : IsE C H v) : IsE C H' v := by
  obtain ⟨a, e, h⟩ := h
  rcases h with ⟨x, h⟩ | ⟨d, fs, h1, h2⟩
  · exact ⟨a, e, .inl ⟨x, s _ _ (fun _ => exq_l) h⟩⟩
  · exact ⟨a, e, .inr ⟨d, fs, s _ _ (fun _ => exo_l) h1, s _ _ (fun _ => exd_l) h2⟩⟩
/-- a row of exceptions -/
def Row (R : V → ExN → Prop) : List V → List ExN → Prop
  | [], [] => True
  | v :: vs, n :: ns => R v n ∧ Row R vs ns
  | _, _ => False
theorem Row.imp {R S : V → ExN → Prop} (f : ∀ v n, R v n → S v n) : ∀ {vs : List V} {ns : List ExN}, Row R vs ns → Row S vs ns
  | [], [], _ => trivial
  | _ :: _, _ :: _, h => ⟨f _ _ h.1, Row.imp f h.2⟩
theorem Row.len {R : V → ExN → Prop} : ∀ {vs : List V} {ns : List ExN}, Row R vs ns → vs.length = ns.length
  | [], [], _ => rfl
  | _ :: _, _ :: _, h => congrArg (· + 1) (Row.len h.2)
theorem Row.get {R : V → ExN → Prop} : ∀ {vs : List V} {ns : List ExN} {i : Nat} {v : V}, Row R vs ns → vs[i]? = some v → ∃ n, ns[i]? = some n ∧ R v n
  | v :: _, n :: _, 0, _, h, e => by cases e; exact ⟨n, rfl, h.1⟩
  | _ :: _, _ :: _, i + 1, _, h, e => Row.get (i := i) h.2 e
theorem Row.snoc {R : V → ExN → Prop} {v : V} {n : ExN} : ∀ {vs : List V} {ns : List ExN}, Row R vs ns → R v n → Row R (vs ++ [v]) (ns ++ [n])
  | [], [], _, h => ⟨h, trivial⟩
  | _ :: _, _ :: _, a, h => ⟨a.1, Row.snoc a.2 h⟩
theorem Row.last {R : V → ExN → Prop} {v : V} {n : ExN} : ∀ {vs : List V} {ns : List ExN}, Row R (vs ++ [v]) (ns ++ [n]) → vs.length = ns.length → Row R vs ns ∧ R v n
  | [], [], h, _ => ⟨trivial, h.1⟩
  | _ :: _, _ :: _, h, l => have z := Row.last h.2 (Nat.succ.inj l); ⟨⟨h.1, z.1⟩, z.2⟩
  | [], _ :: _, _, l => nomatch l
  | _ :: _, [], _, l => nomatch l
/-- a thing that an error may keep -/
def ThV (d : Addr) (H : Hp) (v : V) : Prop := ∃ D, Dy (fun a => a ≠ d) H v D ∧ GoodD D ∧ (PyData.list (List.replicate 6 D)).shown.length ≤ 100000
def ThsV (d : Addr) (H : Hp) (vs : List V) : Prop := ∀ v ∈ vs, ThV d H v
theorem ThV.ext {d : Addr} {H H' : Hp} {v : V} (h : ThV d H v) (e : Ext d H H') : ThV d H' v := by
  obtain ⟨D, h, g⟩ := h
  exact ⟨D, h.keep (fun a o n z => e a o n z) fun _ _ _ n => n, g⟩
theorem six_good {D : PyData} (g : GoodD D) : (PyData.list (List.replicate 6 D)).showable = true ∧ (PyData.list (List.replicate 6 D)).depth ≤ 20 := by
  obtain ⟨g1, g2, _⟩ := g
  refine ⟨?_, ?_⟩
  · show (PyData.list [D, D, D, D, D, D]).showable = true
    simp only [PyData.showable, PyData.showableAll]
    rw [g1]
    rfl
  · show (PyData.list [D, D, D, D, D, D]).depth ≤ 20
    simp only [PyData.depth, PyData.depthAll]
    omega
theorem ThsV.nil {d : Addr} {H : Hp} : ThsV d H [] := fun _ h => nomatch h
theorem ThsV.ext {d : Addr} {H H' : Hp} {vs : List V} (h : ThsV d H vs) (e : Ext d H H') : ThsV d H' vs := fun v m => (h v m).ext e
theorem ThsV.snoc {d : Addr} {H : Hp} {vs : List V} {v : V} (h : ThsV d H vs) (k : ThV d H v) : ThsV d H (vs ++ [v]) := fun z m => by
  rcases List.mem_append.mp m with m | m
  · exact h z m
  · rw [List.mem_singleton.mp m]
    exact k
theorem th_w {d : Addr} {H : Hp} {v : V} {D : PyData} (h : Dw (fun a => a ≠ d) H v D) (g1 : D.showable = true) (g2 : decide (D.depth ≤ 5) = true) (g3 : decide (D.shown.length ≤ 1000) = true) (g4 : decide ((PyData.list (List.replicate 6 D)).shown.length ≤ 100000) = true) : ThV d H v := ⟨D, .inl h, ⟨g1, of_decide_eq_true g2, of_decide_eq_true g3⟩, of_decide_eq_true g4⟩
/-! ### rows of texts, compared -/
theorem shp_strs {ws : List Str} (h : ∀ x ∈ ws, ∀ c ∈ x.cps.toList, c < 128) : SeqAt.shaped (.list (ws.map PyData.str)) = true := by
  unfold SeqAt.shaped
  rw [Bool.and_eq_true_iff]
  constructor
  · rw [PyData.canLay0]
    induction ws with
    | nil => rfl
    | cons x ws ih =>
      rw [List.map_cons, PyData.canLayAll0, ih fun y m => h y (List.mem_cons_of_mem _ m), PyData.canLay0, Bool.and_true]
      unfold PyData.strOk
      rw [← Array.all_toList]
      exact List.all_eq_true.mpr fun c hc => decide_eq_true (Nat.lt_trans (h x List.mem_cons_self c hc) (by decide))
  · refine decide_eq_true (Nat.le_trans (?_ : _ ≤ PySem.W.Datum.depth (List Str)) (by decide))
    exact PySem.W.Datum.depth_le (α := List Str) ws
theorem shp_all {ws : List Str} (h : (ws.all fun x => x.cps.toList.all fun c => decide (c < 128)) = true) : SeqAt.shaped (.list (ws.map PyData.str)) = true :=
  shp_strs fun x m c hc => of_decide_eq_true (List.all_eq_true.mp (List.all_eq_true.mp h x m) c hc)
theorem dpz_strs {K : PySem.W.Frag} {H : Hp} : ∀ r : List Str, DpAll K H (r.map V.str) (r.map PyData.str)
  | [] => .nil
  | n :: r => .cons (.str _) (dpz_strs r)
theorem eqz_strs (r s : List Str) : PyData.eqv (.list (r.map PyData.str)) (.list (s.map PyData.str)) = decide (r = s) := PySem.W.Datum.eqv r s
theorem repS_len {a : Str} {n : Int} (h : a.length = 1) (h0 : 0 ≤ n) : (repS a n).length ≤ n.toNat + 1 := by
  unfold repS
  split
  · exact Nat.zero_le _
  · split
    · rw [h]; omega
    · show ((List.replicate n.toNat a.cps).foldl (· ++ ·) #[]).size ≤ _
      have e : a.cps.size = 1 := h
      rw [fold_size, e]
      show 0 + n.toNat * 1 ≤ _
      omega


end My
namespace My
open PySem PySem.Spec PyProof.Rows L2 TL
set_option pp.maxSteps 3000
set_option pp.deepTerms false
set_option pp.maxSteps 700
/-! ### one look at the errors -/
def sp__law_right (_ : PySem.W.Frag) : Sp := fun vs H Q _ => ∃ d : Addr, vs = [.ref d] ∧ IsDice H d ∧ ∀ H', Ext d H H' → IsDice H' d → Q (.bl true) H'
def ns8 : List ExN := [.InvalidWord, .InvalidType, .InvalidLibrary, .InvalidProgram, .InvalidQuestion, .InvalidRoom, .InvalidDraft, .InvalidOperation]
def ns9 : List ExN := ns8 ++ [.BuildError]
def nsP : List ExN := ns8 ++ [.ParseError]
def ns6 : List ExN := [.UnknownWord, .NoProgram, .NothingToUndo, .TooMany, .Refused, .InvalidNumber]
def due1 (i : Nat) : Str := ((repS "." (0 + (i : Int)) ++ "x") ++ repS "." (8 - (0 + (i : Int)))) ++ "xx"
theorem t_kinds9 : nsP.map _law_kindsT = (List.range 9).map due1 := by decide +kernel
def due6 : List Str := ["x.....x.x...", ".x......x...", "..x....xx...", "...x.....xx.", "....x.....x.", ".....x.....x"]
theorem t_others6 : ns6.map _law_othersT = due6 := by decide +kernel
theorem t_kinds6 : ns6.map _law_kindsT = List.replicate 6 (repS "." 11) := by decide +kernel
theorem t_others9 : ns9.map _law_othersT = List.replicate 9 (repS "." 12) := by decide +kernel
theorem plain9 : ∀ n ∈ ns9, n.plain = true := by decide
section
variable {P : Program} {w : World} {K : PySem.W.Frag} {mg : Str → Option Value} {base : Heap} {C : ExN → Addr}
theorem ok__law_right (T : Txt K mg C) (c__law_pick : Cal P w K mg base "_law_pick" 2 ["_law_dice_here", "_law_items"] (sp__law_pick K)) (c__law_kinds : Cal P w K mg base "_law_kinds" 1 ["_law_error"] (sp__law_kinds C)) (c__law_others : Cal P w K mg base "_law_others" 1 ["_law_error"] (sp__law_others C)) (i_ParseError___init__ : MakE P w K mg base (C .ParseError) (ExN.ini .ParseError) 7 ["self", "line"] (sp_exi (C .ParseError) (ExN.ini .ParseError) "line")) (i_UnknownWord___init__ : MakE P w K mg base (C .UnknownWord) (ExN.ini .UnknownWord) 7 ["self", "asked"] (sp_exi (C .UnknownWord) (ExN.ini .UnknownWord) "asked")) (i_NoProgram___init__ : MakE P w K mg base (C .NoProgram) (ExN.ini .NoProgram) 7 ["self", "wanted"] (sp_exi (C .NoProgram) (ExN.ini .NoProgram) "wanted")) (i_NothingToUndo___init__ : MakE P w K mg base (C .NothingToUndo) (ExN.ini .NothingToUndo) 7 ["self", "amount"] (sp_exi (C .NothingToUndo) (ExN.ini .NothingToUndo) "amount")) (i_TooMany___init__ : MakE P w K mg base (C .TooMany) (ExN.ini .TooMany) 7 ["self", "limit"] (sp_exi (C .TooMany) (ExN.ini .TooMany) "limit")) (i_Refused___init__ : MakE P w K mg base (C .Refused) (ExN.ini .Refused) 7 ["self", "cause"] (sp_exi (C .Refused) (ExN.ini .Refused) "cause")) (i_InvalidNumber___init__ : MakE P w K mg base (C .InvalidNumber) (ExN.ini .InvalidNumber) 7 ["self", "number"] (sp_exi (C .InvalidNumber) (ExN.ini .InvalidNumber) "number")) {f : Addr} {fd : FuncData} (F : Fun K "_law_right" "_law_right" s__law_right f fd) : FnOkG P w K mg base CX0 9 f fd ["_law_dice_here"] (sp__law_right K) := by
  have nd := sc__law_right.nd
  refine F.okG sc__law_right (fun vs H Q E h => ?_) (fun cdv A outer s H vs Q E hr hG h => ?_)
  · obtain ⟨d, rfl, _⟩ := h
    rfl
  · obtain ⟨d, rfl, dk, q⟩ := h
    refine ⟨_, (pss_cons (ps_set (i := 1) nd rfl (.inl rfl) (pe_callC c__law_pick (hr.mono (by first | decide | omega)) hG rfl (pa_cons (pv 0) (pa_cons (pe_lst (pa_cons pe_int (pa_cons pe_str (pa_cons pe_str (pa_cons pe_non (pa_cons (pe_tup pa_nil) (pa_cons (pe_tup (pa_cons pe_str (pa_cons pe_int pa_nil))) (pa_cons (pe_op op_powW pe_int pe_int) (pa_cons pe_bl (pa_cons (pe_tup (pa_cons (pe_tup (pa_cons (pe_tup (pa_cons pe_str pa_nil)) (pa_cons pe_str pa_nil))) (pa_cons pe_str pa_nil))) (pa_cons (pe_lst (pa_cons pe_int pa_nil)) (pa_cons (pe_disp (pps_cons pe_str (pe_tup pa_nil) pps_nil) (by rfl) (by rfl) (fun z => by cases z) (by decide)) pa_nil)))))))))))) pa_nil))))
      (pss_cons (ps_set (i := 2) nd rfl (.inl rfl) (pe_callC c__law_pick (hr.mono (by first | decide | omega)) hG rfl (pa_cons (pv 0) (pa_cons (pe_lst (pa_cons pe_str (pa_cons pe_str (pa_cons pe_str (pa_cons pe_str pa_nil))))) pa_nil))))
      (pss_cons (ps_set (i := 3) nd rfl (.inl rfl) (pe_lst (pa_cons (pe_mkA PySem.F.excBase_ValueError (T.e.plain .InvalidWord rfl) (T.e.g .InvalidWord) (T.e.o .InvalidWord).kC rfl (pv 2)) (pa_cons (pe_mkA PySem.F.excBase_ValueError (T.e.plain .InvalidType rfl) (T.e.g .InvalidType) (T.e.o .InvalidType).kC rfl (pv 2)) (pa_cons (pe_mkA PySem.F.excBase_ValueError (T.e.plain .InvalidLibrary rfl) (T.e.g .InvalidLibrary) (T.e.o .InvalidLibrary).kC rfl (pv 2)) (pa_cons (pe_mkA PySem.F.excBase_ValueError (T.e.plain .InvalidProgram rfl) (T.e.g .InvalidProgram) (T.e.o .InvalidProgram).kC rfl (pv 2)) pa_nil))))))
      (pss_cons (ps_set (i := 3) nd rfl (.inl rfl) (pe_op op_cat (pv 3) (pe_lst (pa_cons (pe_mkA PySem.F.excBase_ValueError (T.e.plain .InvalidQuestion rfl) (T.e.g .InvalidQuestion) (T.e.o .InvalidQuestion).kC rfl (pv 2)) (pa_cons (pe_mkA PySem.F.excBase_ValueError (T.e.plain .InvalidRoom rfl) (T.e.g .InvalidRoom) (T.e.o .InvalidRoom).kC rfl (pv 2)) (pa_cons (pe_mkA PySem.F.excBase_ValueError (T.e.plain .InvalidDraft rfl) (T.e.g .InvalidDraft) (T.e.o .InvalidDraft).kC rfl (pv 2)) (pa_cons (pe_mkA PySem.F.excBase_ValueError (T.e.plain .InvalidOperation rfl) (T.e.g .InvalidOperation) (T.e.o .InvalidOperation).kC rfl (pv 2)) pa_nil)))))))
      (pss_cons (ps_expr (pe_bm PySem.F.plainAttrs_list PySem.F.slot_list_append PySem.F.type_list_append mt_append (pv 3) (pa_cons (pe_mkA PySem.F.excBase_ValueError (T.e.plain .BuildError rfl) (T.e.g .BuildError) (T.e.o .BuildError).kC rfl (pv 2)) pa_nil)))
      (pss_cons (ps_if (PW.pt (pw_or (pt_cmpR (op_neD hr.units) (pe_lcD (own := [("_law_one", 8)]) (by rfl) nd (pi_list (pv 3)) (blkOk_by (own := [("_law_one", 8)]) (N := ["_law_dice_here", "_law_thing", "_law_words", "_law_base", "_law_due", "_law_others_here", "_law_at", "_law_kept", "_law_one"]) (sc := (defScope s__law_right)) (by decide +kernel)) (fun _ _ _ _ _ => pg_name (i := 8) nd rfl (Or.inl rfl)) (fun _ _ _ _ _ => pts_nil) (fun _ _ _ _ _ => (pe_callTy (call_strE (Nat.lt_of_le_of_lt (Nat.add_le_add_left (by decide : 2 ≤ 64) _) hr.units)) (by rfl) T.b_str (by decide +kernel) (pa_cons (pv 8) pa_nil)))) (pe_op op_rep (pe_lst (pa_cons (pv 2) pa_nil)) pe_int) (nomark _)) (pw_or1 (pt_cmpR (op_neD hr.units) (pe_lcD (own := [("_law_one", 8)]) (by rfl) nd (pi_list (pv 3)) (blkOk_by (own := [("_law_one", 8)]) (N := ["_law_dice_here", "_law_thing", "_law_words", "_law_base", "_law_due", "_law_others_here", "_law_at", "_law_kept", "_law_one"]) (sc := (defScope s__law_right)) (by decide +kernel)) (fun _ _ _ _ _ => pg_name (i := 8) nd rfl (Or.inl rfl)) (fun _ _ _ _ _ => pts_nil) (fun _ _ _ _ _ => (pe_callC c__law_others (hr.mono (by first | decide | omega)) hG rfl (pa_cons (pv 8) pa_nil)))) (pe_op op_rep (pe_lst (pa_cons (pe_op op_repS pe_str pe_int) pa_nil)) pe_int) (nomark _))))) (pss_one (ps_ret pe_bl)) pss_nil)
      (pss_cons (ps_asg (pe_makeE i_ParseError___init__ (hr.mono (by first | decide | omega)) hG rfl (T.e.g .ParseError) (pa_cons (pe_callC c__law_pick (hr.mono (by first | decide | omega)) hG rfl (pa_cons (pv 0) (pa_cons (pe_lst (pa_cons pe_non (pa_cons pe_int (pa_cons pe_int (pa_cons (pe_op op_powW pe_int pe_int) pa_nil))))) pa_nil))) pa_nil)) (pg_sub (pv 3) pe_int set_list))
      (pss_cons (ps_setLcD (i := 4) (own := [("_law_at", 6)]) (by rfl) nd rfl rfl (sw_true rfl rfl rfl (by decide +kernel)) (pi_range1 (by rfl) T.b_range (pa_cons pe_int pa_nil)) (blkOk_by (own := [("_law_at", 6)]) (N := ["_law_dice_here", "_law_thing", "_law_words", "_law_base", "_law_due", "_law_others_here", "_law_at", "_law_kept", "_law_one"]) (sc := (defScope s__law_right)) (by decide +kernel)) (fun _ _ _ _ _ => pg_name (i := 6) nd rfl (Or.inl rfl)) (fun _ _ _ _ _ => pts_nil) (fun _ _ _ _ _ => (pe_op op_add_str (pe_op op_add_str (pe_op op_add_str (pe_op op_repS pe_str (pv 6)) pe_str) (pe_op op_repS pe_str (pe_op op_sub pe_int (pv 6)))) pe_str)))
      (pss_cons (ps_if (PW.pt (pw_or (pt_cmpR (op_neD hr.units) (pe_lcD (own := [("_law_one", 8)]) (by rfl) nd (pi_list (pv 3)) (blkOk_by (own := [("_law_one", 8)]) (N := ["_law_dice_here", "_law_thing", "_law_words", "_law_base", "_law_due", "_law_others_here", "_law_at", "_law_kept", "_law_one"]) (sc := (defScope s__law_right)) (by decide +kernel)) (fun _ _ _ _ _ => pg_name (i := 8) nd rfl (Or.inl rfl)) (fun _ _ _ _ _ => pts_nil) (fun _ _ _ _ _ => (pe_callC c__law_kinds (hr.mono (by first | decide | omega)) hG rfl (pa_cons (pv 8) pa_nil)))) (pv 4) (nomark _)) (pw_or1 (pt_cmpR op_ne (pe_callC c__law_kinds (hr.mono (by first | decide | omega)) hG rfl (pa_cons (pe_mkA PySem.F.excBase_ValueError (T.e.plain .BuildError rfl) (T.e.g .BuildError) (T.e.o .BuildError).kC rfl (pv 2)) pa_nil)) (pe_op op_add_str (pe_op op_repS pe_str pe_int) pe_str) (nomark _))))) (pss_one (ps_ret pe_bl)) pss_nil)
      (pss_cons (ps_set (i := 5) nd rfl (.inl rfl) (pe_lst (pa_cons (pe_makeE i_UnknownWord___init__ (hr.mono (by first | decide | omega)) hG rfl (T.e.g .UnknownWord) (pa_cons (pv 1) pa_nil)) (pa_cons (pe_makeE i_NoProgram___init__ (hr.mono (by first | decide | omega)) hG rfl (T.e.g .NoProgram) (pa_cons (pv 1) pa_nil)) (pa_cons (pe_makeE i_NothingToUndo___init__ (hr.mono (by first | decide | omega)) hG rfl (T.e.g .NothingToUndo) (pa_cons (pv 1) pa_nil)) (pa_cons (pe_makeE i_TooMany___init__ (hr.mono (by first | decide | omega)) hG rfl (T.e.g .TooMany) (pa_cons (pv 1) pa_nil)) (pa_cons (pe_makeE i_Refused___init__ (hr.mono (by first | decide | omega)) hG rfl (T.e.g .Refused) (pa_cons (pv 1) pa_nil)) pa_nil)))))))
      (pss_cons (ps_expr (pe_bm PySem.F.plainAttrs_list PySem.F.slot_list_append PySem.F.type_list_append mt_append (pv 5) (pa_cons (pe_makeE i_InvalidNumber___init__ (hr.mono (by first | decide | omega)) hG rfl (T.e.g .InvalidNumber) (pa_cons (pv 1) pa_nil)) pa_nil)))
      (pss_cons (ps_set (i := 4) nd rfl (.inl rfl) (pe_lst (pa_cons pe_str (pa_cons pe_str (pa_cons pe_str (pa_cons pe_str (pa_cons pe_str (pa_cons pe_str pa_nil))))))))
      (pss_cons (ps_if (PW.pt (pw_or (pt_cmpR (op_neD hr.units) (pe_lcD (own := [("_law_one", 8)]) (by rfl) nd (pi_list (pv 5)) (blkOk_by (own := [("_law_one", 8)]) (N := ["_law_dice_here", "_law_thing", "_law_words", "_law_base", "_law_due", "_law_others_here", "_law_at", "_law_kept", "_law_one"]) (sc := (defScope s__law_right)) (by decide +kernel)) (fun _ _ _ _ _ => pg_name (i := 8) nd rfl (Or.inl rfl)) (fun _ _ _ _ _ => pts_nil) (fun _ _ _ _ _ => (pe_callC c__law_others (hr.mono (by first | decide | omega)) hG rfl (pa_cons (pv 8) pa_nil)))) (pv 4) (nomark _)) (pw_or1 (pt_cmpR (op_neD hr.units) (pe_lcD (own := [("_law_one", 8)]) (by rfl) nd (pi_list (pv 5)) (blkOk_by (own := [("_law_one", 8)]) (N := ["_law_dice_here", "_law_thing", "_law_words", "_law_base", "_law_due", "_law_others_here", "_law_at", "_law_kept", "_law_one"]) (sc := (defScope s__law_right)) (by decide +kernel)) (fun _ _ _ _ _ => pg_name (i := 8) nd rfl (Or.inl rfl)) (fun _ _ _ _ _ => pts_nil) (fun _ _ _ _ _ => (pe_callC c__law_kinds (hr.mono (by first | decide | omega)) hG rfl (pa_cons (pv 8) pa_nil)))) (pe_op op_rep (pe_lst (pa_cons (pe_op op_repS pe_str pe_int) pa_nil)) pe_int) (nomark _))))) (pss_one (ps_ret pe_bl)) pss_nil)
      (pss_cons (ps_set (i := 6) nd rfl (.inl rfl) (pe_callC c__law_pick (hr.mono (by first | decide | omega)) hG rfl (pa_cons (pv 0) (pa_cons (pe_lst (pa_cons pe_non (pa_cons pe_int (pa_cons pe_int (pa_cons (pe_op op_powW pe_int pe_int) pa_nil))))) pa_nil))))
      (pss_cons (ps_if (PW.pt (pw_or (pt_cmpR op_ne (pe_callC c__law_others (hr.mono (by first | decide | omega)) hG rfl (pa_cons (pe_ix ix_list (pv 3) pe_int (fun _ _ => rfl)) pa_nil)) (pe_op op_repS pe_str pe_int) (nomark _)) (pw_or1 (pt_cmpR op_ne (pe_callB (call_reprZ hG hr.units) (by rfl) T.b_repr (by decide +kernel) (pa_cons (pe_xv (T.e.o .ParseError).xf (T.e.fld .ParseError _ rfl) (pe_makeE i_ParseError___init__ (hr.mono (by first | decide | omega)) hG rfl (T.e.g .ParseError) (pa_cons (pv 6) pa_nil))) pa_nil)) (pe_callB (call_reprZ hG hr.units) (by rfl) T.b_repr (by decide +kernel) (pa_cons (pv 6) pa_nil)) (nomark _))))) (pss_one (ps_ret pe_bl)) pss_nil)
      (pss_cons (ps_set (i := 7) nd rfl (.inl rfl) (pe_lstB (pa_cons (pe_xv (T.e.o .UnknownWord).xf (T.e.fld .UnknownWord _ rfl) (pe_ix ix_list (pv 5) pe_int (fun _ _ => rfl))) (pa_cons (pe_xv (T.e.o .NoProgram).xf (T.e.fld .NoProgram _ rfl) (pe_ix ix_list (pv 5) pe_int (fun _ _ => rfl))) (pa_cons (pe_xv (T.e.o .NothingToUndo).xf (T.e.fld .NothingToUndo _ rfl) (pe_ix ix_list (pv 5) pe_int (fun _ _ => rfl))) (pa_cons (pe_xv (T.e.o .TooMany).xf (T.e.fld .TooMany _ rfl) (pe_ix ix_list (pv 5) pe_int (fun _ _ => rfl))) (pa_cons (pe_xv (T.e.o .Refused).xf (T.e.fld .Refused _ rfl) (pe_ix ix_list (pv 5) pe_int (fun _ _ => rfl))) (pa_cons (pe_xv (T.e.o .InvalidNumber).xf (T.e.fld .InvalidNumber _ rfl) (pe_ix ix_list (pv 5) pe_int (fun _ _ => rfl))) pa_nil))))))))
      (pss_one (ps_ret (pe_cmpR op_eq (pe_callB (call_reprL hG hr.units) (by rfl) T.b_repr (by decide +kernel) (pa_cons (pv 7) pa_nil)) (pe_callB (call_reprL hG hr.units) (by rfl) T.b_repr (by decide +kernel) (pa_cons (pe_op op_repB (pe_lst (pa_cons (pv 1) pa_nil)) pe_int) pa_nil)) (nomark _)))))))))))))))))))), ?_⟩
    have xk := Ext.refl (d := d) H
    have ths : ThsV d H [] := ThsV.nil
    have ths := ths.snoc (th_w (.int 0) (by decide +kernel) (by decide +kernel) (by decide +kernel) (by decide +kernel))
    have ths := ths.snoc (th_w (.str "") (by decide +kernel) (by decide +kernel) (by decide +kernel) (by decide +kernel))
    have ths := ths.snoc (th_w (.str "a") (by decide +kernel) (by decide +kernel) (by decide +kernel) (by decide +kernel))
    have ths := ths.snoc (th_w .non (by decide +kernel) (by decide +kernel) (by decide +kernel) (by decide +kernel))
    refine ⟨.ref d, rfl, lt_line (by show 0 ≤ 1000000; decide), fun a1 ha1 => ?_⟩
    have na1 : a1 ≠ d := dk.ne ha1
    have ths := ths.ext ((Ext.refl (d := d) H).new (o := .tup []) ha1)
    have xk := xk.new (o := .tup []) ha1
    have dk := dk.new (o := .tup []) ha1
    have fa1 : upd H a1 (.tup []) a1 = some (.tup []) := upd_same
    generalize upd H a1 (.tup []) = K1 at xk dk fa1 ths ⊢
    have ths := ths.snoc (th_w (.tup (by decide) na1 fa1 .nil) (by decide +kernel) (by decide +kernel) (by decide +kernel) (by decide +kernel))
    refine ⟨lt_line (by show 2 ≤ 1000000; decide), fun a2 ha2 => ?_⟩
    have na2 : a2 ≠ d := dk.ne ha2
    have ths := ths.ext ((Ext.refl (d := d) K1).new (o := .tup [.str "f", .int 3]) ha2)
    have fa1 := (upd_ne (o := .tup [.str "f", .int 3]) (ne_of_none fa1 ha2)).trans fa1
    have xk := xk.new (o := .tup [.str "f", .int 3]) ha2
    have dk := dk.new (o := .tup [.str "f", .int 3]) ha2
    have fa2 : upd K1 a2 (.tup [.str "f", .int 3]) a2 = some (.tup [.str "f", .int 3]) := upd_same
    generalize upd K1 a2 (.tup [.str "f", .int 3]) = K2 at xk dk fa2 ths fa1 ⊢
    have ths := ths.snoc (th_w (.tup (by decide) na2 fa2 (.cons (.str _) (.cons (.int _) .nil))) (by decide +kernel) (by decide +kernel) (by decide +kernel) (by decide +kernel))
    have ths := ths.snoc (th_w (.int (10 ^ (30 : Int).toNat)) (by decide +kernel) (by decide +kernel) (by decide +kernel) (by decide +kernel))
    have ths := ths.snoc (th_w (.bl true) (by decide +kernel) (by decide +kernel) (by decide +kernel) (by decide +kernel))
    refine ⟨10, 30, rfl, rfl, ⟨by decide, by decide +kernel⟩, lt_line (by show 1 ≤ 1000000; decide), fun a3 ha3 => ?_⟩
    have na3 : a3 ≠ d := dk.ne ha3
    have ths := ths.ext ((Ext.refl (d := d) K2).new (o := .tup [.str "f"]) ha3)
    have fa1 := (upd_ne (o := .tup [.str "f"]) (ne_of_none fa1 ha3)).trans fa1
    have fa2 := (upd_ne (o := .tup [.str "f"]) (ne_of_none fa2 ha3)).trans fa2
    have xk := xk.new (o := .tup [.str "f"]) ha3
    have dk := dk.new (o := .tup [.str "f"]) ha3
    have fa3 : upd K2 a3 (.tup [.str "f"]) a3 = some (.tup [.str "f"]) := upd_same
    generalize upd K2 a3 (.tup [.str "f"]) = K3 at xk dk fa3 ths fa1 fa2 ⊢
    refine ⟨lt_line (by show 2 ≤ 1000000; decide), fun a4 ha4 => ?_⟩
    have na4 : a4 ≠ d := dk.ne ha4
    have ths := ths.ext ((Ext.refl (d := d) K3).new (o := .tup [.ref a3, .str "a"]) ha4)
    have fa1 := (upd_ne (o := .tup [.ref a3, .str "a"]) (ne_of_none fa1 ha4)).trans fa1
    have fa2 := (upd_ne (o := .tup [.ref a3, .str "a"]) (ne_of_none fa2 ha4)).trans fa2
    have fa3 := (upd_ne (o := .tup [.ref a3, .str "a"]) (ne_of_none fa3 ha4)).trans fa3
    have xk := xk.new (o := .tup [.ref a3, .str "a"]) ha4
    have dk := dk.new (o := .tup [.ref a3, .str "a"]) ha4
    have fa4 : upd K3 a4 (.tup [.ref a3, .str "a"]) a4 = some (.tup [.ref a3, .str "a"]) := upd_same
    generalize upd K3 a4 (.tup [.ref a3, .str "a"]) = K4 at xk dk fa4 ths fa1 fa2 fa3 ⊢
    refine ⟨lt_line (by show 2 ≤ 1000000; decide), fun a5 ha5 => ?_⟩
    have na5 : a5 ≠ d := dk.ne ha5
    have ths := ths.ext ((Ext.refl (d := d) K4).new (o := .tup [.ref a4, .str "x0"]) ha5)
    have fa1 := (upd_ne (o := .tup [.ref a4, .str "x0"]) (ne_of_none fa1 ha5)).trans fa1
    have fa2 := (upd_ne (o := .tup [.ref a4, .str "x0"]) (ne_of_none fa2 ha5)).trans fa2
    have fa3 := (upd_ne (o := .tup [.ref a4, .str "x0"]) (ne_of_none fa3 ha5)).trans fa3
    have fa4 := (upd_ne (o := .tup [.ref a4, .str "x0"]) (ne_of_none fa4 ha5)).trans fa4
    have xk := xk.new (o := .tup [.ref a4, .str "x0"]) ha5
    have dk := dk.new (o := .tup [.ref a4, .str "x0"]) ha5
    have fa5 : upd K4 a5 (.tup [.ref a4, .str "x0"]) a5 = some (.tup [.ref a4, .str "x0"]) := upd_same
    generalize upd K4 a5 (.tup [.ref a4, .str "x0"]) = K5 at xk dk fa5 ths fa1 fa2 fa3 fa4 ⊢
    have ths := ths.snoc (th_w (.tup (by show 2 ≤ 100; decide) na5 fa5 (.cons (.tup (by show 2 ≤ 100; decide) na4 fa4 (.cons (.tup (by decide) na3 fa3 (.cons (.str _) .nil)) (.cons (.str _) .nil))) (.cons (.str _) .nil))) (by decide +kernel) (by decide +kernel) (by decide +kernel) (by decide +kernel))
    refine ⟨lt_line (by show 1 ≤ 1000000; decide), fun a6 ha6 => ?_⟩
    have na6 : a6 ≠ d := dk.ne ha6
    have ths := ths.ext ((Ext.refl (d := d) K5).new (o := .lst [.int 1]) ha6)
    have fa1 := (upd_ne (o := .lst [.int 1]) (ne_of_none fa1 ha6)).trans fa1
    have fa2 := (upd_ne (o := .lst [.int 1]) (ne_of_none fa2 ha6)).trans fa2
    have fa3 := (upd_ne (o := .lst [.int 1]) (ne_of_none fa3 ha6)).trans fa3
    have fa4 := (upd_ne (o := .lst [.int 1]) (ne_of_none fa4 ha6)).trans fa4
    have fa5 := (upd_ne (o := .lst [.int 1]) (ne_of_none fa5 ha6)).trans fa5
    have xk := xk.new (o := .lst [.int 1]) ha6
    have dk := dk.new (o := .lst [.int 1]) ha6
    have fa6 : upd K5 a6 (.lst [.int 1]) a6 = some (.lst [.int 1]) := upd_same
    generalize upd K5 a6 (.lst [.int 1]) = K6 at xk dk fa6 ths fa1 fa2 fa3 fa4 fa5 ⊢
    have ths := ths.snoc (th_w (.lst (by decide) na6 fa6 (.cons (.int _) .nil)) (by decide +kernel) (by decide +kernel) (by decide +kernel) (by decide +kernel))
    refine fun a7 ha7 => ?_
    have h7 := ha7
    have na7 : a7 ≠ d := dk.ne ha7
    have g7 : H a7 = none := xk.none na7 ha7
    have e6 := (Ext.refl (d := d) K6).new (o := .dK []) ha7
    have xk := xk.new (o := .dK []) ha7
    have dk := dk.new (o := .dK []) ha7
    have f7 : upd K6 a7 (.dK []) a7 = some (.dK []) := upd_same
    generalize upd K6 a7 (.dK []) = J1 at e6 xk dk f7 ⊢
    refine ⟨lt_line (by show 0 ≤ 1000000; decide), fun a8 ha8 => ?_⟩
    have e6 := e6.new (o := .tup []) ha8
    have xk := xk.new (o := .tup []) ha8
    have na8 : a8 ≠ d := dk.ne ha8
    have dk := dk.new (o := .tup []) ha8
    have f7 := (upd_ne (o := .tup []) (ne_of_none f7 ha8)).trans f7
    have f8 : upd J1 a8 (.tup []) a8 = some (.tup []) := upd_same
    generalize upd J1 a8 (.tup []) = J2 at e6 xk dk f7 f8 ⊢
    refine ⟨f7, [((Sum.inr "a" : Key), V.ref a8)], rfl, (by show 1 ≤ 15; decide), ?_⟩
    have n78 : a8 ≠ a7 := ne_of f8 f7 (fun z => nomatch z)
    have e6 := e6.mut (o := .dK (mergeK [] [((Sum.inr "a" : Key), V.ref a8)])) h7
    have xk := xk.mut (o := .dK (mergeK [] [((Sum.inr "a" : Key), V.ref a8)])) g7
    have dk := dk.mut (o := .dK (mergeK [] [((Sum.inr "a" : Key), V.ref a8)])) na7
    have f8 := (upd_ne (o := .dK (mergeK [] [((Sum.inr "a" : Key), V.ref a8)])) n78).trans f8
    have f7 : upd J2 a7 (.dK (mergeK [] [((Sum.inr "a" : Key), V.ref a8)])) a7 = some (.dK [((Sum.inr "a" : Key), V.ref a8)]) := upd_same
    generalize upd J2 a7 (.dK (mergeK [] [((Sum.inr "a" : Key), V.ref a8)])) = J3 at e6 xk dk f7 f8 ⊢
    have ths := ths.ext e6
    have ths := ths.snoc (⟨.dict [(.str "a", .tuple [])], .inr ⟨a7, a8, rfl, na7, na8, ⟨f7, f8⟩, rfl⟩, ⟨by decide +kernel, by simp only [PyData.depth, PyData.depthKv, PyData.depthAll]; decide, by decide +kernel⟩, by decide +kernel⟩)
    refine ⟨lt_line (by show 11 ≤ 1000000; decide), fun a9 ha9 => ?_⟩
    have na9 : a9 ≠ d := dk.ne ha9
    have ths := ths.ext ((Ext.refl (d := d) J3).new (o := .lst [.int 0, .str "", .str "a", .non, .ref a1, .ref a2, .int (10 ^ (30 : Int).toNat), .bl true, .ref a5, .ref a6, .ref a7]) ha9)
    have xk := xk.new (o := .lst [.int 0, .str "", .str "a", .non, .ref a1, .ref a2, .int (10 ^ (30 : Int).toNat), .bl true, .ref a5, .ref a6, .ref a7]) ha9
    have dk := dk.new (o := .lst [.int 0, .str "", .str "a", .non, .ref a1, .ref a2, .int (10 ^ (30 : Int).toNat), .bl true, .ref a5, .ref a6, .ref a7]) ha9
    have fa9 : upd J3 a9 (.lst [.int 0, .str "", .str "a", .non, .ref a1, .ref a2, .int (10 ^ (30 : Int).toNat), .bl true, .ref a5, .ref a6, .ref a7]) a9 = some (.lst [.int 0, .str "", .str "a", .non, .ref a1, .ref a2, .int (10 ^ (30 : Int).toNat), .bl true, .ref a5, .ref a6, .ref a7]) := upd_same
    generalize upd J3 a9 (.lst [.int 0, .str "", .str "a", .non, .ref a1, .ref a2, .int (10 ^ (30 : Int).toNat), .bl true, .ref a5, .ref a6, .ref a7]) = K7 at xk dk fa9 ths ⊢
    refine ⟨d, a9, _, rfl, dk, SqL.of fa9, na9, (fun z => nomatch z), by show 11 < 1000000; decide, fun v H1 hv e1 d1 => asg_go2 ?_⟩
    dsimp only [List.set]
    obtain ⟨D, hD, gD, gD6⟩ := (ths v hv).ext e1
    have xk := xk.trans e1
    have dk := d1
    clear ths
    have x2 := Ext.refl (d := d) H1
    refine ⟨.ref d, rfl, lt_line (by show 4 ≤ 1000000; decide), fun b1 hb1 => ?_⟩
    have nb1 : b1 ≠ d := dk.ne hb1
    have xk := xk.new (o := .lst [.str "", .str "no library", .str "a", .str "line 3"]) hb1
    have dk := dk.new (o := .lst [.str "", .str "no library", .str "a", .str "line 3"]) hb1
    have x2 := x2.new (o := .lst [.str "", .str "no library", .str "a", .str "line 3"]) hb1
    have fb1 : upd H1 b1 (.lst [.str "", .str "no library", .str "a", .str "line 3"]) b1 = some (.lst [.str "", .str "no library", .str "a", .str "line 3"]) := upd_same
    generalize upd H1 b1 (.lst [.str "", .str "no library", .str "a", .str "line 3"]) = K8 at xk dk fb1 x2 ⊢
    refine ⟨d, b1, _, rfl, dk, SqL.of fb1, nb1, (fun z => nomatch z), by show 4 < 1000000; decide, fun v2 H2 hv2 e2 d2 => asg_go2 ?_⟩
    dsimp only [List.set]
    obtain ⟨x, rfl, xa, xl⟩ : ∃ x : Str, v2 = .str x ∧ (∀ c ∈ x.cps.toList, c < 128) ∧ x.length ≤ 20 := by
      simp only [List.mem_cons, List.mem_nil_iff, or_false] at hv2
      rcases hv2 with rfl | rfl | rfl | rfl <;> exact ⟨_, rfl, by decide +kernel, by decide +kernel⟩
    have xk := xk.trans e2
    have x2 := x2.trans e2
    have dk := d2
    have ek : Row (ExA C H2 x) [] [] := trivial
    refine ⟨.str x, rfl, x, rfl, fun e_1 t_1 he_1 ht_1 n_1 => ?_⟩
    have nt_1 : t_1 ≠ d := dk.ne ht_1
    have ek := ek.imp fun _ _ z => z.nl ((NL.refl H2).new (o := .tup [.str x]) ht_1)
    have he_1 := (upd_ne (o := .tup [.str x]) n_1).trans he_1
    have xk := xk.new (o := .tup [.str x]) ht_1
    have dk := dk.new (o := .tup [.str x]) ht_1
    have x2 := x2.new (o := .tup [.str x]) ht_1
    have ft_1 : upd H2 t_1 (.tup [.str x]) t_1 = some (.tup [.str x]) := upd_same
    generalize upd H2 t_1 (.tup [.str x]) = K9 at xk dk ft_1 x2 ek he_1 ⊢
    have ne_1 : e_1 ≠ d := dk.ne he_1
    have ft_1 := (upd_ne (o := exq e_1 (C .InvalidWord) t_1) (ne_of_none ft_1 he_1)).trans ft_1
    have ek := ek.imp fun _ _ z => z.nl ((NL.refl K9).new (o := exq e_1 (C .InvalidWord) t_1) he_1)
    have xk := xk.new (o := exq e_1 (C .InvalidWord) t_1) he_1
    have dk := dk.new (o := exq e_1 (C .InvalidWord) t_1) he_1
    have x2 := x2.new (o := exq e_1 (C .InvalidWord) t_1) he_1
    have fe_1 : upd K9 e_1 (exq e_1 (C .InvalidWord) t_1) e_1 = some (exq e_1 (C .InvalidWord) t_1) := upd_same
    generalize upd K9 e_1 (exq e_1 (C .InvalidWord) t_1) = K10 at xk dk fe_1 x2 ft_1 ek ⊢
    have ek := ek.snoc ⟨e_1, t_1, rfl, fe_1, ft_1⟩
    refine ⟨.str x, rfl, x, rfl, fun e_2 t_2 he_2 ht_2 n_2 => ?_⟩
    have nt_2 : t_2 ≠ d := dk.ne ht_2
    have ek := ek.imp fun _ _ z => z.nl ((NL.refl K10).new (o := .tup [.str x]) ht_2)
    have he_2 := (upd_ne (o := .tup [.str x]) n_2).trans he_2
    have xk := xk.new (o := .tup [.str x]) ht_2
    have dk := dk.new (o := .tup [.str x]) ht_2
    have x2 := x2.new (o := .tup [.str x]) ht_2
    have ft_2 : upd K10 t_2 (.tup [.str x]) t_2 = some (.tup [.str x]) := upd_same
    generalize upd K10 t_2 (.tup [.str x]) = K11 at xk dk ft_2 x2 ek he_2 ⊢
    have ne_2 : e_2 ≠ d := dk.ne he_2
    have ft_2 := (upd_ne (o := exq e_2 (C .InvalidType) t_2) (ne_of_none ft_2 he_2)).trans ft_2
    have ek := ek.imp fun _ _ z => z.nl ((NL.refl K11).new (o := exq e_2 (C .InvalidType) t_2) he_2)
    have xk := xk.new (o := exq e_2 (C .InvalidType) t_2) he_2
    have dk := dk.new (o := exq e_2 (C .InvalidType) t_2) he_2
    have x2 := x2.new (o := exq e_2 (C .InvalidType) t_2) he_2
    have fe_2 : upd K11 e_2 (exq e_2 (C .InvalidType) t_2) e_2 = some (exq e_2 (C .InvalidType) t_2) := upd_same
    generalize upd K11 e_2 (exq e_2 (C .InvalidType) t_2) = K12 at xk dk fe_2 x2 ft_2 ek ⊢
    have ek := ek.snoc ⟨e_2, t_2, rfl, fe_2, ft_2⟩
    refine ⟨.str x, rfl, x, rfl, fun e_3 t_3 he_3 ht_3 n_3 => ?_⟩
    have nt_3 : t_3 ≠ d := dk.ne ht_3
    have ek := ek.imp fun _ _ z => z.nl ((NL.refl K12).new (o := .tup [.str x]) ht_3)
    have he_3 := (upd_ne (o := .tup [.str x]) n_3).trans he_3
    have xk := xk.new (o := .tup [.str x]) ht_3
    have dk := dk.new (o := .tup [.str x]) ht_3
    have x2 := x2.new (o := .tup [.str x]) ht_3
    have ft_3 : upd K12 t_3 (.tup [.str x]) t_3 = some (.tup [.str x]) := upd_same
    generalize upd K12 t_3 (.tup [.str x]) = K13 at xk dk ft_3 x2 ek he_3 ⊢
    have ne_3 : e_3 ≠ d := dk.ne he_3
    have ft_3 := (upd_ne (o := exq e_3 (C .InvalidLibrary) t_3) (ne_of_none ft_3 he_3)).trans ft_3
    have ek := ek.imp fun _ _ z => z.nl ((NL.refl K13).new (o := exq e_3 (C .InvalidLibrary) t_3) he_3)
    have xk := xk.new (o := exq e_3 (C .InvalidLibrary) t_3) he_3
    have dk := dk.new (o := exq e_3 (C .InvalidLibrary) t_3) he_3
    have x2 := x2.new (o := exq e_3 (C .InvalidLibrary) t_3) he_3
    have fe_3 : upd K13 e_3 (exq e_3 (C .InvalidLibrary) t_3) e_3 = some (exq e_3 (C .InvalidLibrary) t_3) := upd_same
    generalize upd K13 e_3 (exq e_3 (C .InvalidLibrary) t_3) = K14 at xk dk fe_3 x2 ft_3 ek ⊢
    have ek := ek.snoc ⟨e_3, t_3, rfl, fe_3, ft_3⟩
    refine ⟨.str x, rfl, x, rfl, fun e_4 t_4 he_4 ht_4 n_4 => ?_⟩
    have nt_4 : t_4 ≠ d := dk.ne ht_4
    have ek := ek.imp fun _ _ z => z.nl ((NL.refl K14).new (o := .tup [.str x]) ht_4)
    have he_4 := (upd_ne (o := .tup [.str x]) n_4).trans he_4
    have xk := xk.new (o := .tup [.str x]) ht_4
    have dk := dk.new (o := .tup [.str x]) ht_4
    have x2 := x2.new (o := .tup [.str x]) ht_4
    have ft_4 : upd K14 t_4 (.tup [.str x]) t_4 = some (.tup [.str x]) := upd_same
    generalize upd K14 t_4 (.tup [.str x]) = K15 at xk dk ft_4 x2 ek he_4 ⊢
    have ne_4 : e_4 ≠ d := dk.ne he_4
    have ft_4 := (upd_ne (o := exq e_4 (C .InvalidProgram) t_4) (ne_of_none ft_4 he_4)).trans ft_4
    have ek := ek.imp fun _ _ z => z.nl ((NL.refl K15).new (o := exq e_4 (C .InvalidProgram) t_4) he_4)
    have xk := xk.new (o := exq e_4 (C .InvalidProgram) t_4) he_4
    have dk := dk.new (o := exq e_4 (C .InvalidProgram) t_4) he_4
    have x2 := x2.new (o := exq e_4 (C .InvalidProgram) t_4) he_4
    have fe_4 : upd K15 e_4 (exq e_4 (C .InvalidProgram) t_4) e_4 = some (exq e_4 (C .InvalidProgram) t_4) := upd_same
    generalize upd K15 e_4 (exq e_4 (C .InvalidProgram) t_4) = K16 at xk dk fe_4 x2 ft_4 ek ⊢
    have ek := ek.snoc ⟨e_4, t_4, rfl, fe_4, ft_4⟩
    refine ⟨lt_line (by show 4 ≤ 1000000; decide), fun l1 hl1 => ?_⟩
    have nl1 : l1 ≠ d := dk.ne hl1
    have ek := ek.imp fun _ _ z => z.nl ((NL.refl K16).new (o := .lst [.ref e_1, .ref e_2, .ref e_3, .ref e_4]) hl1)
    have xk := xk.new (o := .lst [.ref e_1, .ref e_2, .ref e_3, .ref e_4]) hl1
    have dk := dk.new (o := .lst [.ref e_1, .ref e_2, .ref e_3, .ref e_4]) hl1
    have x2 := x2.new (o := .lst [.ref e_1, .ref e_2, .ref e_3, .ref e_4]) hl1
    have fl1 : upd K16 l1 (.lst [.ref e_1, .ref e_2, .ref e_3, .ref e_4]) l1 = some (.lst [.ref e_1, .ref e_2, .ref e_3, .ref e_4]) := upd_same
    generalize upd K16 l1 (.lst [.ref e_1, .ref e_2, .ref e_3, .ref e_4]) = K17 at xk dk fl1 x2 ek ⊢
    refine asg_go2 ?_
    dsimp only [List.set]
    refine ⟨.ref l1, rfl, ?_⟩
    refine ⟨.str x, rfl, x, rfl, fun e_5 t_5 he_5 ht_5 n_5 => ?_⟩
    have nt_5 : t_5 ≠ d := dk.ne ht_5
    have fl1 := (upd_ne (o := .tup [.str x]) (ne_of_none fl1 ht_5)).trans fl1
    have ek := ek.imp fun _ _ z => z.nl ((NL.refl K17).new (o := .tup [.str x]) ht_5)
    have he_5 := (upd_ne (o := .tup [.str x]) n_5).trans he_5
    have xk := xk.new (o := .tup [.str x]) ht_5
    have dk := dk.new (o := .tup [.str x]) ht_5
    have x2 := x2.new (o := .tup [.str x]) ht_5
    have ft_5 : upd K17 t_5 (.tup [.str x]) t_5 = some (.tup [.str x]) := upd_same
    generalize upd K17 t_5 (.tup [.str x]) = K18 at xk dk ft_5 x2 fl1 ek he_5 ⊢
    have ne_5 : e_5 ≠ d := dk.ne he_5
    have fl1 := (upd_ne (o := exq e_5 (C .InvalidQuestion) t_5) (ne_of_none fl1 he_5)).trans fl1
    have ft_5 := (upd_ne (o := exq e_5 (C .InvalidQuestion) t_5) (ne_of_none ft_5 he_5)).trans ft_5
    have ek := ek.imp fun _ _ z => z.nl ((NL.refl K18).new (o := exq e_5 (C .InvalidQuestion) t_5) he_5)
    have xk := xk.new (o := exq e_5 (C .InvalidQuestion) t_5) he_5
    have dk := dk.new (o := exq e_5 (C .InvalidQuestion) t_5) he_5
    have x2 := x2.new (o := exq e_5 (C .InvalidQuestion) t_5) he_5
    have fe_5 : upd K18 e_5 (exq e_5 (C .InvalidQuestion) t_5) e_5 = some (exq e_5 (C .InvalidQuestion) t_5) := upd_same
    generalize upd K18 e_5 (exq e_5 (C .InvalidQuestion) t_5) = K19 at xk dk fe_5 x2 fl1 ft_5 ek ⊢
    have ek := ek.snoc ⟨e_5, t_5, rfl, fe_5, ft_5⟩
    refine ⟨.str x, rfl, x, rfl, fun e_6 t_6 he_6 ht_6 n_6 => ?_⟩
    have nt_6 : t_6 ≠ d := dk.ne ht_6
    have fl1 := (upd_ne (o := .tup [.str x]) (ne_of_none fl1 ht_6)).trans fl1
    have ek := ek.imp fun _ _ z => z.nl ((NL.refl K19).new (o := .tup [.str x]) ht_6)
    have he_6 := (upd_ne (o := .tup [.str x]) n_6).trans he_6
    have xk := xk.new (o := .tup [.str x]) ht_6
    have dk := dk.new (o := .tup [.str x]) ht_6
    have x2 := x2.new (o := .tup [.str x]) ht_6
    have ft_6 : upd K19 t_6 (.tup [.str x]) t_6 = some (.tup [.str x]) := upd_same
    generalize upd K19 t_6 (.tup [.str x]) = K20 at xk dk ft_6 x2 fl1 ek he_6 ⊢
    have ne_6 : e_6 ≠ d := dk.ne he_6
    have fl1 := (upd_ne (o := exq e_6 (C .InvalidRoom) t_6) (ne_of_none fl1 he_6)).trans fl1
    have ft_6 := (upd_ne (o := exq e_6 (C .InvalidRoom) t_6) (ne_of_none ft_6 he_6)).trans ft_6
    have ek := ek.imp fun _ _ z => z.nl ((NL.refl K20).new (o := exq e_6 (C .InvalidRoom) t_6) he_6)
    have xk := xk.new (o := exq e_6 (C .InvalidRoom) t_6) he_6
    have dk := dk.new (o := exq e_6 (C .InvalidRoom) t_6) he_6
    have x2 := x2.new (o := exq e_6 (C .InvalidRoom) t_6) he_6
    have fe_6 : upd K20 e_6 (exq e_6 (C .InvalidRoom) t_6) e_6 = some (exq e_6 (C .InvalidRoom) t_6) := upd_same
    generalize upd K20 e_6 (exq e_6 (C .InvalidRoom) t_6) = K21 at xk dk fe_6 x2 fl1 ft_6 ek ⊢
    have ek := ek.snoc ⟨e_6, t_6, rfl, fe_6, ft_6⟩
    refine ⟨.str x, rfl, x, rfl, fun e_7 t_7 he_7 ht_7 n_7 => ?_⟩
    have nt_7 : t_7 ≠ d := dk.ne ht_7
    have fl1 := (upd_ne (o := .tup [.str x]) (ne_of_none fl1 ht_7)).trans fl1
    have ek := ek.imp fun _ _ z => z.nl ((NL.refl K21).new (o := .tup [.str x]) ht_7)
    have he_7 := (upd_ne (o := .tup [.str x]) n_7).trans he_7
    have xk := xk.new (o := .tup [.str x]) ht_7
    have dk := dk.new (o := .tup [.str x]) ht_7
    have x2 := x2.new (o := .tup [.str x]) ht_7
    have ft_7 : upd K21 t_7 (.tup [.str x]) t_7 = some (.tup [.str x]) := upd_same
    generalize upd K21 t_7 (.tup [.str x]) = K22 at xk dk ft_7 x2 fl1 ek he_7 ⊢
    have ne_7 : e_7 ≠ d := dk.ne he_7
    have fl1 := (upd_ne (o := exq e_7 (C .InvalidDraft) t_7) (ne_of_none fl1 he_7)).trans fl1
    have ft_7 := (upd_ne (o := exq e_7 (C .InvalidDraft) t_7) (ne_of_none ft_7 he_7)).trans ft_7
    have ek := ek.imp fun _ _ z => z.nl ((NL.refl K22).new (o := exq e_7 (C .InvalidDraft) t_7) he_7)
    have xk := xk.new (o := exq e_7 (C .InvalidDraft) t_7) he_7
    have dk := dk.new (o := exq e_7 (C .InvalidDraft) t_7) he_7
    have x2 := x2.new (o := exq e_7 (C .InvalidDraft) t_7) he_7
    have fe_7 : upd K22 e_7 (exq e_7 (C .InvalidDraft) t_7) e_7 = some (exq e_7 (C .InvalidDraft) t_7) := upd_same
    generalize upd K22 e_7 (exq e_7 (C .InvalidDraft) t_7) = K23 at xk dk fe_7 x2 fl1 ft_7 ek ⊢
    have ek := ek.snoc ⟨e_7, t_7, rfl, fe_7, ft_7⟩
    refine ⟨.str x, rfl, x, rfl, fun e_8 t_8 he_8 ht_8 n_8 => ?_⟩
    have nt_8 : t_8 ≠ d := dk.ne ht_8
    have fl1 := (upd_ne (o := .tup [.str x]) (ne_of_none fl1 ht_8)).trans fl1
    have ek := ek.imp fun _ _ z => z.nl ((NL.refl K23).new (o := .tup [.str x]) ht_8)
    have he_8 := (upd_ne (o := .tup [.str x]) n_8).trans he_8
    have xk := xk.new (o := .tup [.str x]) ht_8
    have dk := dk.new (o := .tup [.str x]) ht_8
    have x2 := x2.new (o := .tup [.str x]) ht_8
    have ft_8 : upd K23 t_8 (.tup [.str x]) t_8 = some (.tup [.str x]) := upd_same
    generalize upd K23 t_8 (.tup [.str x]) = K24 at xk dk ft_8 x2 fl1 ek he_8 ⊢
    have ne_8 : e_8 ≠ d := dk.ne he_8
    have fl1 := (upd_ne (o := exq e_8 (C .InvalidOperation) t_8) (ne_of_none fl1 he_8)).trans fl1
    have ft_8 := (upd_ne (o := exq e_8 (C .InvalidOperation) t_8) (ne_of_none ft_8 he_8)).trans ft_8
    have ek := ek.imp fun _ _ z => z.nl ((NL.refl K24).new (o := exq e_8 (C .InvalidOperation) t_8) he_8)
    have xk := xk.new (o := exq e_8 (C .InvalidOperation) t_8) he_8
    have dk := dk.new (o := exq e_8 (C .InvalidOperation) t_8) he_8
    have x2 := x2.new (o := exq e_8 (C .InvalidOperation) t_8) he_8
    have fe_8 : upd K24 e_8 (exq e_8 (C .InvalidOperation) t_8) e_8 = some (exq e_8 (C .InvalidOperation) t_8) := upd_same
    generalize upd K24 e_8 (exq e_8 (C .InvalidOperation) t_8) = K25 at xk dk fe_8 x2 fl1 ft_8 ek ⊢
    have ek := ek.snoc ⟨e_8, t_8, rfl, fe_8, ft_8⟩
    refine ⟨lt_line (by show 4 ≤ 1000000; decide), fun l2 hl2 => ?_⟩
    have nl2 : l2 ≠ d := dk.ne hl2
    have fl1 := (upd_ne (o := .lst [.ref e_5, .ref e_6, .ref e_7, .ref e_8]) (ne_of_none fl1 hl2)).trans fl1
    have ek := ek.imp fun _ _ z => z.nl ((NL.refl K25).new (o := .lst [.ref e_5, .ref e_6, .ref e_7, .ref e_8]) hl2)
    have xk := xk.new (o := .lst [.ref e_5, .ref e_6, .ref e_7, .ref e_8]) hl2
    have dk := dk.new (o := .lst [.ref e_5, .ref e_6, .ref e_7, .ref e_8]) hl2
    have x2 := x2.new (o := .lst [.ref e_5, .ref e_6, .ref e_7, .ref e_8]) hl2
    have fl2 : upd K25 l2 (.lst [.ref e_5, .ref e_6, .ref e_7, .ref e_8]) l2 = some (.lst [.ref e_5, .ref e_6, .ref e_7, .ref e_8]) := upd_same
    generalize upd K25 l2 (.lst [.ref e_5, .ref e_6, .ref e_7, .ref e_8]) = K26 at xk dk fl2 x2 fl1 ek ⊢
    refine ⟨l1, l2, _, _, rfl, rfl, fl1, fl2, lt_line (by show 8 ≤ 1000000; decide), fun L hL => asg_go2 ?_⟩
    dsimp only [List.set]
    have h2L : H1 L = none := x2.none (dk.ne hL) hL
    have hHL : H L = none := xk.none (dk.ne hL) hL
    have nL : L ≠ d := dk.ne hL
    have ek := ek.imp fun _ _ z => z.nl ((NL.refl K26).new (o := .lst ([.ref e_1, .ref e_2, .ref e_3, .ref e_4] ++ [.ref e_5, .ref e_6, .ref e_7, .ref e_8])) hL)
    have xk := xk.new (o := .lst ([.ref e_1, .ref e_2, .ref e_3, .ref e_4] ++ [.ref e_5, .ref e_6, .ref e_7, .ref e_8])) hL
    have dk := dk.new (o := .lst ([.ref e_1, .ref e_2, .ref e_3, .ref e_4] ++ [.ref e_5, .ref e_6, .ref e_7, .ref e_8])) hL
    have x2 := x2.new (o := .lst ([.ref e_1, .ref e_2, .ref e_3, .ref e_4] ++ [.ref e_5, .ref e_6, .ref e_7, .ref e_8])) hL
    have fL : upd K26 L (.lst ([.ref e_1, .ref e_2, .ref e_3, .ref e_4] ++ [.ref e_5, .ref e_6, .ref e_7, .ref e_8])) L = some (.lst ([.ref e_1, .ref e_2, .ref e_3, .ref e_4] ++ [.ref e_5, .ref e_6, .ref e_7, .ref e_8])) := upd_same
    generalize upd K26 L (.lst ([.ref e_1, .ref e_2, .ref e_3, .ref e_4] ++ [.ref e_5, .ref e_6, .ref e_7, .ref e_8])) = K27 at xk dk fL x2 ek ⊢
    refine ⟨.ref L, rfl, .inl ⟨rfl, _, SqL.of fL⟩, .str x, rfl, x, rfl, fun e_9 t_9 he_9 ht_9 n_9 => ?_⟩
    have nt_9 : t_9 ≠ d := dk.ne ht_9
    have fL := (upd_ne (o := .tup [.str x]) (ne_of_none fL ht_9)).trans fL
    have ek := ek.imp fun _ _ z => z.nl ((NL.refl K27).new (o := .tup [.str x]) ht_9)
    have he_9 := (upd_ne (o := .tup [.str x]) n_9).trans he_9
    have xk := xk.new (o := .tup [.str x]) ht_9
    have dk := dk.new (o := .tup [.str x]) ht_9
    have x2 := x2.new (o := .tup [.str x]) ht_9
    have ft_9 : upd K27 t_9 (.tup [.str x]) t_9 = some (.tup [.str x]) := upd_same
    generalize upd K27 t_9 (.tup [.str x]) = K28 at xk dk ft_9 x2 fL ek he_9 ⊢
    have ne_9 : e_9 ≠ d := dk.ne he_9
    have fL := (upd_ne (o := exq e_9 (C .BuildError) t_9) (ne_of_none fL he_9)).trans fL
    have ft_9 := (upd_ne (o := exq e_9 (C .BuildError) t_9) (ne_of_none ft_9 he_9)).trans ft_9
    have ek := ek.imp fun _ _ z => z.nl ((NL.refl K28).new (o := exq e_9 (C .BuildError) t_9) he_9)
    have xk := xk.new (o := exq e_9 (C .BuildError) t_9) he_9
    have dk := dk.new (o := exq e_9 (C .BuildError) t_9) he_9
    have x2 := x2.new (o := exq e_9 (C .BuildError) t_9) he_9
    have fe_9 : upd K28 e_9 (exq e_9 (C .BuildError) t_9) e_9 = some (exq e_9 (C .BuildError) t_9) := upd_same
    generalize upd K28 e_9 (exq e_9 (C .BuildError) t_9) = K29 at xk dk fe_9 x2 fL ft_9 ek ⊢
    have ek := ek.snoc ⟨e_9, t_9, rfl, fe_9, ft_9⟩
    refine ⟨L, _, .ref e_9, rfl, rfl, fL, lt_line' (by show 8 < 1000000; decide), ?_⟩
    have nk := NL.refl K29
    have nk := nk.set (o := .lst ([.ref e_1, .ref e_2, .ref e_3, .ref e_4] ++ [.ref e_5, .ref e_6, .ref e_7, .ref e_8] ++ [.ref e_9])) fL
    have ek := ek.imp fun _ _ z => z.nl nk
    have xk := xk.mut (o := .lst ([.ref e_1, .ref e_2, .ref e_3, .ref e_4] ++ [.ref e_5, .ref e_6, .ref e_7, .ref e_8] ++ [.ref e_9])) hHL
    have x2 := x2.mut (o := .lst ([.ref e_1, .ref e_2, .ref e_3, .ref e_4] ++ [.ref e_5, .ref e_6, .ref e_7, .ref e_8] ++ [.ref e_9])) h2L
    have dk := dk.mut (o := .lst ([.ref e_1, .ref e_2, .ref e_3, .ref e_4] ++ [.ref e_5, .ref e_6, .ref e_7, .ref e_8] ++ [.ref e_9])) nL
    have fL : upd K29 L (.lst ([.ref e_1, .ref e_2, .ref e_3, .ref e_4] ++ [.ref e_5, .ref e_6, .ref e_7, .ref e_8] ++ [.ref e_9])) L = some (.lst ([V.ref e_1, V.ref e_2, V.ref e_3, V.ref e_4, V.ref e_5, V.ref e_6, V.ref e_7, V.ref e_8] ++ [V.ref e_9])) := upd_same
    have ek : Row (ExA C (upd K29 L (.lst ([.ref e_1, .ref e_2, .ref e_3, .ref e_4] ++ [.ref e_5, .ref e_6, .ref e_7, .ref e_8] ++ [.ref e_9]))) x) ([V.ref e_1, V.ref e_2, V.ref e_3, V.ref e_4, V.ref e_5, V.ref e_6, V.ref e_7, V.ref e_8] ++ [V.ref e_9]) (ns8 ++ [.BuildError]) := ek
    generalize upd K29 L (.lst ([.ref e_1, .ref e_2, .ref e_3, .ref e_4] ++ [.ref e_5, .ref e_6, .ref e_7, .ref e_8] ++ [.ref e_9])) = B1 at xk x2 dk fL ek ⊢
    clear nk
    obtain ⟨v8, evs⟩ : ∃ z, z = [V.ref e_1, V.ref e_2, V.ref e_3, V.ref e_4, V.ref e_5, V.ref e_6, V.ref e_7, V.ref e_8] := ⟨_, rfl⟩
    rw [← evs] at fL ek
    have l8 : v8.length = 8 := by rw [evs]; rfl
    clear evs
    obtain ⟨ek, eb⟩ := ek.last (by rw [l8]; rfl)
    refine ⟨.ref L, rfl, L, rfl, ⟨_, SqL.of fL⟩, fun D1 hD1 => lc_list (xs := (v8 ++ [V.ref e_9])) (fun i H' => H' D1 = some (.lst (((ns9.take i).map (fun _ => x)).map V.str)) ∧ Same B1 H') ⟨upd_same, (Same.refl _).mut hD1⟩ (fun i H' _ hP => SqL.of (hP.2 _ _ fL)) (fun i y H' hy hP => ?_) (fun GD1 hP => ?_)⟩
    · obtain ⟨hq, s1⟩ := hP
      obtain ⟨n, en, rn⟩ := (ek.snoc eb).get hy
      have en : ns9[i]? = some n := en
      have li := lt_of_get en
      have lN : ns9.length = 9 := rfl
      refine ⟨rfl, tyes ?_⟩
      obtain ⟨a, t, rfl, h1, h2⟩ := rn
      refine ⟨.ref a, rfl, a, C n, t, x, rfl, s1 _ _ h1, s1 _ _ h2, T.e.str n (plain9 n (List.mem_of_getElem? en)), (T.e.o n).exC, ?_⟩
      exact ⟨_, hq, lt_line' (by rw [List.length_map, List.length_map, List.length_take]; omega), by rw [upd_same, take_next en, List.map_append, List.map_append]; rfl, s1.mut hD1⟩
    obtain ⟨fD1, sD1⟩ := hP
    rw [show (v8 ++ [V.ref e_9]).length = ns9.length from (ek.snoc eb).len, List.take_length] at fD1
    have fL := sD1 _ _ fL
    have ek := ek.imp fun _ _ z => z.nl ((NL.refl B1).same sD1)
    have eb := eb.nl ((NL.refl B1).same sD1)
    have xk := xk.trans (Ext.same sD1)
    have x2 := x2.trans (Ext.same sD1)
    have dk := dk.same sD1
    refine ⟨.str x, rfl, lt_line (by show 1 ≤ 1000000; decide), fun l3 hl3 => ?_⟩
    have nl3 : l3 ≠ d := dk.ne hl3
    have fL := (upd_ne (o := .lst [.str x]) (ne_of_none fL hl3)).trans fL
    have fD1 := (upd_ne (o := .lst [.str x]) (ne_of_none fD1 hl3)).trans fD1
    have ek := ek.imp fun _ _ z => z.nl ((NL.refl GD1).new (o := .lst [.str x]) hl3)
    have eb := eb.nl ((NL.refl GD1).new (o := .lst [.str x]) hl3)
    have xk := xk.new (o := .lst [.str x]) hl3
    have dk := dk.new (o := .lst [.str x]) hl3
    have x2 := x2.new (o := .lst [.str x]) hl3
    have fl3 : upd GD1 l3 (.lst [.str x]) l3 = some (.lst [.str x]) := upd_same
    generalize upd GD1 l3 (.lst [.str x]) = K30 at xk dk fl3 x2 fL fD1 ek eb ⊢
    refine ⟨l3, 9, [.str x], rfl, rfl, fl3, by decide, by decide, lt_line (by show 1 * 9 ≤ 1000000; decide), fun p3 hp3 => ?_⟩
    have np3 : p3 ≠ d := dk.ne hp3
    have fL := (upd_ne (o := .lst (List.replicate (9 : Int).toNat [V.str x]).flatten) (ne_of_none fL hp3)).trans fL
    have fD1 := (upd_ne (o := .lst (List.replicate (9 : Int).toNat [V.str x]).flatten) (ne_of_none fD1 hp3)).trans fD1
    have ek := ek.imp fun _ _ z => z.nl ((NL.refl K30).new (o := .lst (List.replicate (9 : Int).toNat [V.str x]).flatten) hp3)
    have eb := eb.nl ((NL.refl K30).new (o := .lst (List.replicate (9 : Int).toNat [V.str x]).flatten) hp3)
    have xk := xk.new (o := .lst (List.replicate (9 : Int).toNat [V.str x]).flatten) hp3
    have dk := dk.new (o := .lst (List.replicate (9 : Int).toNat [V.str x]).flatten) hp3
    have x2 := x2.new (o := .lst (List.replicate (9 : Int).toNat [V.str x]).flatten) hp3
    have fp3 : upd K30 p3 (.lst (List.replicate (9 : Int).toNat [V.str x]).flatten) p3 = some (.lst (List.replicate (9 : Int).toNat [V.str x]).flatten) := upd_same
    generalize upd K30 p3 (.lst (List.replicate (9 : Int).toNat [V.str x]).flatten) = K31 at xk dk fp3 x2 fL fD1 ek eb ⊢
    have fp3 : K31 p3 = some (.lst ((List.replicate 9 x).map V.str)) := fp3
    refine ⟨_, _, .lst (SqL.of fD1) (dpz_strs _), .lst (SqL.of fp3) (dpz_strs _), shp_strs (fun y m => by obtain ⟨_, _, rfl⟩ := List.mem_map.mp m; exact xa), shp_strs (fun y m => by rw [(List.mem_replicate.mp m).2]; exact xa), _, rfl, ?_⟩
    rw [eqz_strs, decide_eq_true (show ns9.map (fun _ => x) = List.replicate 9 x from rfl)]
    refine iteF ?_
    refine ⟨.ref L, rfl, L, rfl, ⟨_, SqL.of fL⟩, fun D2 hD2 => lc_list (xs := (v8 ++ [V.ref e_9])) (fun i H' => H' D2 = some (.lst (((ns9.take i).map _law_othersT).map V.str)) ∧ Same K31 H') ⟨upd_same, (Same.refl _).mut hD2⟩ (fun i H' _ hP => SqL.of (hP.2 _ _ fL)) (fun i y H' hy hP => ?_) (fun GD2 hP => ?_)⟩
    · obtain ⟨hq, s1⟩ := hP
      obtain ⟨n, en, rn⟩ := (ek.snoc eb).get hy
      have en : ns9[i]? = some n := en
      have li := lt_of_get en
      have lN : ns9.length = 9 := rfl
      refine ⟨rfl, tyes ?_⟩
      refine ⟨y, rfl, y, n, rfl, IsE.same s1 rn.is, fun H2 s2 => ?_⟩
      exact ⟨_, s2 _ _ hq, lt_line' (by rw [List.length_map, List.length_map, List.length_take]; omega), by rw [upd_same, take_next en, List.map_append, List.map_append]; rfl, (s1.trans s2).mut hD2⟩
    obtain ⟨fD2, sD2⟩ := hP
    rw [show (v8 ++ [V.ref e_9]).length = ns9.length from (ek.snoc eb).len, List.take_length] at fD2
    have fL := sD2 _ _ fL
    have ek := ek.imp fun _ _ z => z.nl ((NL.refl K31).same sD2)
    have eb := eb.nl ((NL.refl K31).same sD2)
    have xk := xk.trans (Ext.same sD2)
    have x2 := x2.trans (Ext.same sD2)
    have dk := dk.same sD2
    refine ⟨".", 12, rfl, rfl, by decide, by decide, by decide, lt_line (by show 1 ≤ 1000000; decide), fun l4 hl4 => ?_⟩
    have nl4 : l4 ≠ d := dk.ne hl4
    have fL := (upd_ne (o := .lst [.str (repS "." 12)]) (ne_of_none fL hl4)).trans fL
    have fD2 := (upd_ne (o := .lst [.str (repS "." 12)]) (ne_of_none fD2 hl4)).trans fD2
    have ek := ek.imp fun _ _ z => z.nl ((NL.refl GD2).new (o := .lst [.str (repS "." 12)]) hl4)
    have eb := eb.nl ((NL.refl GD2).new (o := .lst [.str (repS "." 12)]) hl4)
    have xk := xk.new (o := .lst [.str (repS "." 12)]) hl4
    have dk := dk.new (o := .lst [.str (repS "." 12)]) hl4
    have x2 := x2.new (o := .lst [.str (repS "." 12)]) hl4
    have fl4 : upd GD2 l4 (.lst [.str (repS "." 12)]) l4 = some (.lst [.str (repS "." 12)]) := upd_same
    generalize upd GD2 l4 (.lst [.str (repS "." 12)]) = K32 at xk dk fl4 x2 fL fD2 ek eb ⊢
    refine ⟨l4, 9, [.str (repS "." 12)], rfl, rfl, fl4, by decide, by decide, lt_line (by show 1 * 9 ≤ 1000000; decide), fun p4 hp4 => ?_⟩
    have np4 : p4 ≠ d := dk.ne hp4
    have fL := (upd_ne (o := .lst (List.replicate (9 : Int).toNat [V.str (repS "." 12)]).flatten) (ne_of_none fL hp4)).trans fL
    have fD2 := (upd_ne (o := .lst (List.replicate (9 : Int).toNat [V.str (repS "." 12)]).flatten) (ne_of_none fD2 hp4)).trans fD2
    have ek := ek.imp fun _ _ z => z.nl ((NL.refl K32).new (o := .lst (List.replicate (9 : Int).toNat [V.str (repS "." 12)]).flatten) hp4)
    have eb := eb.nl ((NL.refl K32).new (o := .lst (List.replicate (9 : Int).toNat [V.str (repS "." 12)]).flatten) hp4)
    have xk := xk.new (o := .lst (List.replicate (9 : Int).toNat [V.str (repS "." 12)]).flatten) hp4
    have dk := dk.new (o := .lst (List.replicate (9 : Int).toNat [V.str (repS "." 12)]).flatten) hp4
    have x2 := x2.new (o := .lst (List.replicate (9 : Int).toNat [V.str (repS "." 12)]).flatten) hp4
    have fp4 : upd K32 p4 (.lst (List.replicate (9 : Int).toNat [V.str (repS "." 12)]).flatten) p4 = some (.lst (List.replicate (9 : Int).toNat [V.str (repS "." 12)]).flatten) := upd_same
    generalize upd K32 p4 (.lst (List.replicate (9 : Int).toNat [V.str (repS "." 12)]).flatten) = K33 at xk dk fp4 x2 fL fD2 ek eb ⊢
    have fp4 : K33 p4 = some (.lst ((List.replicate 9 (repS "." 12)).map V.str)) := fp4
    refine ⟨_, _, .lst (SqL.of fD2) (dpz_strs _), .lst (SqL.of fp4) (dpz_strs _), shp_all (by decide +kernel), shp_all (by decide +kernel), _, rfl, ?_⟩
    rw [eqz_strs, decide_eq_true (t_others9)]
    refine iteF ?_
    refine nx_go ?_
    refine ⟨.ref d, rfl, 10, 20, rfl, rfl, ⟨by decide, by decide +kernel⟩, lt_line (by show 4 ≤ 1000000; decide), fun l5 hl5 => ?_⟩
    have nl5 : l5 ≠ d := dk.ne hl5
    have fL := (upd_ne (o := .lst [.non, .int 0, .int 7, .int (10 ^ (20 : Int).toNat)]) (ne_of_none fL hl5)).trans fL
    have ek := ek.imp fun _ _ z => z.nl ((NL.refl K33).new (o := .lst [.non, .int 0, .int 7, .int (10 ^ (20 : Int).toNat)]) hl5)
    have eb := eb.nl ((NL.refl K33).new (o := .lst [.non, .int 0, .int 7, .int (10 ^ (20 : Int).toNat)]) hl5)
    have xk := xk.new (o := .lst [.non, .int 0, .int 7, .int (10 ^ (20 : Int).toNat)]) hl5
    have dk := dk.new (o := .lst [.non, .int 0, .int 7, .int (10 ^ (20 : Int).toNat)]) hl5
    have x2 := x2.new (o := .lst [.non, .int 0, .int 7, .int (10 ^ (20 : Int).toNat)]) hl5
    have fl5 : upd K33 l5 (.lst [.non, .int 0, .int 7, .int (10 ^ (20 : Int).toNat)]) l5 = some (.lst [.non, .int 0, .int 7, .int (10 ^ (20 : Int).toNat)]) := upd_same
    generalize upd K33 l5 (.lst [.non, .int 0, .int 7, .int (10 ^ (20 : Int).toNat)]) = K34 at xk dk fl5 x2 fL ek eb ⊢
    refine ⟨d, l5, _, rfl, dk, SqL.of fl5, nl5, (fun z => nomatch z), by show 4 < 1000000; decide, fun v3 H3 hv3 e3 d3 => ?_⟩
    obtain ⟨D3, hD3, gD3⟩ : ∃ D, Dw (fun _ => True) H3 v3 D ∧ GoodD D := by
      simp only [List.mem_cons, List.mem_nil_iff, or_false] at hv3
      rcases hv3 with rfl | rfl | rfl | rfl
      · exact ⟨_, .non, by decide +kernel, by decide +kernel, by decide +kernel⟩
      · exact ⟨_, .int _, by decide +kernel, by decide +kernel, by decide +kernel⟩
      · exact ⟨_, .int _, by decide +kernel, by decide +kernel, by decide +kernel⟩
      · exact ⟨_, .int _, by decide +kernel, by decide +kernel, by decide +kernel⟩
    have fL := e3 _ _ (nL) fL
    have ek := ek.imp fun _ _ z => z.nl ((NL.refl K34).roll dk e3)
    have eb := eb.nl ((NL.refl K34).roll dk e3)
    have xk := xk.trans e3
    have x2 := x2.trans e3
    have dk := d3
    refine ⟨by show 1 ≤ 1000; decide, fun a ha => ⟨a, v3, D3, rfl, upd_same, .inl (hD3.keep (fun b o _ e => (upd_ne (ne_of_none e ha)).trans e) fun _ _ _ _ => trivial), gD3, fun wa ca Ga kp fa fca hwa => ⟨rfl, ?_⟩⟩⟩
    have na : a ≠ d := dk.ne ha
    have sa : Same H3 Ga := fun b o e => kp b o (ne_of_none e ha) ((upd_ne (ne_of_none e ha)).trans e)
    have fL := sa _ _ fL
    have ek := ek.imp fun _ _ z => z.nl ((NL.refl H3).same sa)
    have eb := eb.nl ((NL.refl H3).same sa)
    have xk := xk.trans (Ext.same sa)
    have x2 := x2.trans (Ext.same sa)
    have dk := dk.same sa
    have ia : IsE (C .ParseError) Ga (.ref a) := ⟨a, rfl, .inr ⟨ca, _, fa, fca⟩⟩
    refine ⟨.ref L, rfl, L, _, 8, 8, rfl, rfl, fL, by rw [List.length_append, l8]; rfl, ?_⟩
    rw [show (v8 ++ [V.ref e_9]).set 8 (V.ref a) = v8 ++ [V.ref a] by rw [List.set_append_right _ _ (by omega), l8]; rfl]
    have es : Row (fun v n => IsE (C n) Ga v) v8 ns8 := ek.imp fun _ _ z => z.is
    have nk := (NL.refl Ga).set (o := .lst (v8 ++ [V.ref a])) fL
    have es := es.imp fun _ _ z => IsE.nl nk z
    have ia := IsE.nl nk ia
    have xk := xk.mut (o := .lst (v8 ++ [V.ref a])) hHL
    have x2 := x2.mut (o := .lst (v8 ++ [V.ref a])) h2L
    have dk := dk.mut (o := .lst (v8 ++ [V.ref a])) nL
    have fL : upd Ga L (.lst (v8 ++ [V.ref a])) L = some (.lst (v8 ++ [V.ref a])) := upd_same
    generalize upd Ga L (.lst (v8 ++ [V.ref a])) = B2 at xk x2 dk fL es ia ⊢
    clear nk ek eb
    refine ⟨9, rfl, by decide, by decide, fun D4 hD4 => lc_range (lo := 0) (n := 9) (fun i H' => H' D4 = some (.lst (((List.range i).map due1).map V.str)) ∧ Same B2 H') ⟨upd_same, (Same.refl _).mut hD4⟩ (fun i H' hi hP => ?_) (fun G4 hP => ?_)⟩
    · obtain ⟨hq, s1⟩ := hP
      refine ⟨rfl, tyes ?_⟩
      have r1 := repS_len (a := ".") (n := 0 + (i : Int)) (by decide) (by omega)
      have r2 := repS_len (a := ".") (n := 8 - (0 + (i : Int))) (by decide) (by omega)
      have r3 : (repS "." (0 + (i : Int)) ++ ("x" : Str)).length = (repS "." (0 + (i : Int))).length + 1 := PySem.Str.length_append _ _
      have r4 : ((repS "." (0 + (i : Int)) ++ ("x" : Str)) ++ repS "." (8 - (0 + (i : Int)))).length = (repS "." (0 + (i : Int)) ++ ("x" : Str)).length + (repS "." (8 - (0 + (i : Int)))).length := PySem.Str.length_append _ _
      have x1 : ("x" : Str).length = 1 := by decide
      have x2 : ("xx" : Str).length = 2 := by decide
      refine ⟨.int (0 + (i : Int)), rfl, ".", _, rfl, rfl, by decide, by omega, by omega, _, _, rfl, rfl, lt_line (by omega), .int (0 + (i : Int)), rfl, 8, _, rfl, rfl, ".", _, rfl, rfl, by decide, by omega, by omega, _, _, rfl, rfl, lt_line (by omega), _, _, rfl, rfl, lt_line (by omega), ?_⟩
      exact ⟨_, hq, lt_line' (by rw [List.length_map, List.length_map, List.length_range]; omega), by rw [upd_same, List.range_succ, List.map_append, List.map_append]; rfl, s1.mut hD4⟩
    obtain ⟨fD4, sD4⟩ := hP
    have fL := sD4 _ _ fL
    have es := es.imp fun _ _ z => IsE.nl ((NL.refl B2).same sD4) z
    have ia := IsE.nl ((NL.refl B2).same sD4) ia
    have xk := xk.trans (Ext.same sD4)
    have x2 := x2.trans (Ext.same sD4)
    have dk := dk.same sD4
    refine asg_go2 ?_
    dsimp only [List.set]
    refine ⟨.ref L, rfl, L, rfl, ⟨_, SqL.of fL⟩, fun D5 hD5 => lc_list (xs := (v8 ++ [V.ref a])) (fun i H' => H' D5 = some (.lst (((nsP.take i).map _law_kindsT).map V.str)) ∧ Same G4 H') ⟨upd_same, (Same.refl _).mut hD5⟩ (fun i H' _ hP => SqL.of (hP.2 _ _ fL)) (fun i y H' hy hP => ?_) (fun GD5 hP => ?_)⟩
    · obtain ⟨hq, s1⟩ := hP
      obtain ⟨n, en, rn⟩ := (es.snoc (R := fun v n => IsE (C n) _ v) ia).get hy
      have en : nsP[i]? = some n := en
      have li := lt_of_get en
      have lN : nsP.length = 9 := rfl
      refine ⟨rfl, tyes ?_⟩
      refine ⟨y, rfl, y, n, rfl, IsE.same s1 rn, fun H2 s2 => ?_⟩
      exact ⟨_, s2 _ _ hq, lt_line' (by rw [List.length_map, List.length_map, List.length_take]; omega), by rw [upd_same, take_next en, List.map_append, List.map_append]; rfl, (s1.trans s2).mut hD5⟩
    obtain ⟨fD5, sD5⟩ := hP
    rw [show (v8 ++ [V.ref a]).length = nsP.length from (es.snoc (R := fun v n => IsE (C n) _ v) ia).len, List.take_length] at fD5
    have fL := sD5 _ _ fL
    have fD4 := sD5 _ _ fD4
    have es := es.imp fun _ _ z => IsE.nl ((NL.refl G4).same sD5) z
    have ia := IsE.nl ((NL.refl G4).same sD5) ia
    have xk := xk.trans (Ext.same sD5)
    have x2 := x2.trans (Ext.same sD5)
    have dk := dk.same sD5
    refine ⟨.ref D4, rfl, _, _, .lst (SqL.of fD5) (dpz_strs _), .lst (SqL.of fD4) (dpz_strs _), shp_all (by decide +kernel), shp_all (by decide +kernel), _, rfl, ?_⟩
    rw [eqz_strs, decide_eq_true t_kinds9]
    refine iteF ?_
    refine ⟨.str x, rfl, x, rfl, fun e_10 t_10 he_10 ht_10 n_10 => ?_⟩
    have nt_10 : t_10 ≠ d := dk.ne ht_10
    have fL := (upd_ne (o := .tup [.str x]) (ne_of_none fL ht_10)).trans fL
    have es := es.imp fun _ _ z => IsE.nl ((NL.refl GD5).new (o := .tup [.str x]) ht_10) z
    have ia := IsE.nl ((NL.refl GD5).new (o := .tup [.str x]) ht_10) ia
    have he_10 := (upd_ne (o := .tup [.str x]) n_10).trans he_10
    have xk := xk.new (o := .tup [.str x]) ht_10
    have dk := dk.new (o := .tup [.str x]) ht_10
    have x2 := x2.new (o := .tup [.str x]) ht_10
    have ft_10 : upd GD5 t_10 (.tup [.str x]) t_10 = some (.tup [.str x]) := upd_same
    generalize upd GD5 t_10 (.tup [.str x]) = K35 at xk dk ft_10 x2 fL es ia he_10 ⊢
    have ne_10 : e_10 ≠ d := dk.ne he_10
    have fL := (upd_ne (o := exq e_10 (C .BuildError) t_10) (ne_of_none fL he_10)).trans fL
    have ft_10 := (upd_ne (o := exq e_10 (C .BuildError) t_10) (ne_of_none ft_10 he_10)).trans ft_10
    have es := es.imp fun _ _ z => IsE.nl ((NL.refl K35).new (o := exq e_10 (C .BuildError) t_10) he_10) z
    have ia := IsE.nl ((NL.refl K35).new (o := exq e_10 (C .BuildError) t_10) he_10) ia
    have xk := xk.new (o := exq e_10 (C .BuildError) t_10) he_10
    have dk := dk.new (o := exq e_10 (C .BuildError) t_10) he_10
    have x2 := x2.new (o := exq e_10 (C .BuildError) t_10) he_10
    have fe_10 : upd K35 e_10 (exq e_10 (C .BuildError) t_10) e_10 = some (exq e_10 (C .BuildError) t_10) := upd_same
    generalize upd K35 e_10 (exq e_10 (C .BuildError) t_10) = K36 at xk dk fe_10 x2 fL ft_10 es ia ⊢
    refine ⟨.ref e_10, .BuildError, rfl, ⟨e_10, rfl, .inl ⟨_, fe_10⟩⟩, fun G10 s10 => ?_⟩
    have fL := s10 _ _ fL
    have es := es.imp fun _ _ z => IsE.nl ((NL.refl K36).same s10) z
    have ia := IsE.nl ((NL.refl K36).same s10) ia
    have xk := xk.trans (Ext.same s10)
    have x2 := x2.trans (Ext.same s10)
    have dk := dk.same s10
    have r9 := repS_len (a := ".") (n := 9) (by decide) (by decide)
    have r2 : ("xx" : Str).length = 2 := by decide
    refine ⟨".", 9, rfl, rfl, by decide, by decide, by decide, _, _, rfl, rfl, lt_line (by have : (9 : Int).toNat = 9 := rfl; omega), rfl, _, rfl, ?_⟩
    rw [show _law_kindsT .BuildError = repS "." 9 ++ "xx" by decide +kernel, decide_eq_true rfl]
    refine iteF (nx_go ?_)
    have d0 := dk
    refine ⟨v, rfl, by show 1 ≤ 1000; decide, fun u1 hu1 => ⟨u1, v, D, rfl, upd_same, (hD.keep (B := fun _ => True) (fun b o nb e => (upd_ne (ne_of_none (x2 b o nb e) hu1)).trans (x2 b o nb e)) fun _ _ _ _ => trivial), gD, fun wu1 cu1 Gu1 kp fu1 fcu1 hwu1 => ⟨rfl, ?_⟩⟩⟩
    have nu1 : u1 ≠ d := dk.ne hu1
    have su1 : Same G10 Gu1 := fun b o e => kp b o (ne_of_none e hu1) ((upd_ne (ne_of_none e hu1)).trans e)
    have fL := su1 _ _ fL
    have es := es.imp fun _ _ z => IsE.nl ((NL.refl G10).same su1) z
    have ia := IsE.nl ((NL.refl G10).same su1) ia
    have xk := xk.trans (Ext.same su1)
    have x2 := x2.trans (Ext.same su1)
    have dk := dk.same su1
    have iu1 : IsE (C .UnknownWord) Gu1 (.ref u1) := ⟨u1, rfl, .inr ⟨cu1, _, fu1, fcu1⟩⟩
    have hwu1 : Dy (fun b => b ≠ d) Gu1 wu1 D := hwu1.keep (fun _ _ _ e => e) fun b o _ hb => fun z => by obtain ⟨_, _, _, hd⟩ := d0.new (o := exo u1 (C .UnknownWord) none) hu1; rw [z, hd] at hb; cases hb
    clear d0
    have d0 := dk
    refine ⟨v, rfl, by show 1 ≤ 1000; decide, fun u2 hu2 => ⟨u2, v, D, rfl, upd_same, (hD.keep (B := fun _ => True) (fun b o nb e => (upd_ne (ne_of_none (x2 b o nb e) hu2)).trans (x2 b o nb e)) fun _ _ _ _ => trivial), gD, fun wu2 cu2 Gu2 kp fu2 fcu2 hwu2 => ⟨rfl, ?_⟩⟩⟩
    have nu2 : u2 ≠ d := dk.ne hu2
    have su2 : Same Gu1 Gu2 := fun b o e => kp b o (ne_of_none e hu2) ((upd_ne (ne_of_none e hu2)).trans e)
    have fL := su2 _ _ fL
    have fu1 := su2 _ _ fu1
    have fcu1 := su2 _ _ fcu1
    have es := es.imp fun _ _ z => IsE.nl ((NL.refl Gu1).same su2) z
    have ia := IsE.nl ((NL.refl Gu1).same su2) ia
    have iu1 := IsE.nl ((NL.refl Gu1).same su2) iu1
    have hwu1 := hwu1.keep (fun b o n e => (Ext.same (d := d) su2) b o n e) fun _ _ _ z => z
    have xk := xk.trans (Ext.same su2)
    have x2 := x2.trans (Ext.same su2)
    have dk := dk.same su2
    have iu2 : IsE (C .NoProgram) Gu2 (.ref u2) := ⟨u2, rfl, .inr ⟨cu2, _, fu2, fcu2⟩⟩
    have hwu2 : Dy (fun b => b ≠ d) Gu2 wu2 D := hwu2.keep (fun _ _ _ e => e) fun b o _ hb => fun z => by obtain ⟨_, _, _, hd⟩ := d0.new (o := exo u2 (C .NoProgram) none) hu2; rw [z, hd] at hb; cases hb
    clear d0
    have d0 := dk
    refine ⟨v, rfl, by show 1 ≤ 1000; decide, fun u3 hu3 => ⟨u3, v, D, rfl, upd_same, (hD.keep (B := fun _ => True) (fun b o nb e => (upd_ne (ne_of_none (x2 b o nb e) hu3)).trans (x2 b o nb e)) fun _ _ _ _ => trivial), gD, fun wu3 cu3 Gu3 kp fu3 fcu3 hwu3 => ⟨rfl, ?_⟩⟩⟩
    have nu3 : u3 ≠ d := dk.ne hu3
    have su3 : Same Gu2 Gu3 := fun b o e => kp b o (ne_of_none e hu3) ((upd_ne (ne_of_none e hu3)).trans e)
    have fL := su3 _ _ fL
    have fu1 := su3 _ _ fu1
    have fcu1 := su3 _ _ fcu1
    have fu2 := su3 _ _ fu2
    have fcu2 := su3 _ _ fcu2
    have es := es.imp fun _ _ z => IsE.nl ((NL.refl Gu2).same su3) z
    have ia := IsE.nl ((NL.refl Gu2).same su3) ia
    have iu1 := IsE.nl ((NL.refl Gu2).same su3) iu1
    have hwu1 := hwu1.keep (fun b o n e => (Ext.same (d := d) su3) b o n e) fun _ _ _ z => z
    have iu2 := IsE.nl ((NL.refl Gu2).same su3) iu2
    have hwu2 := hwu2.keep (fun b o n e => (Ext.same (d := d) su3) b o n e) fun _ _ _ z => z
    have xk := xk.trans (Ext.same su3)
    have x2 := x2.trans (Ext.same su3)
    have dk := dk.same su3
    have iu3 : IsE (C .NothingToUndo) Gu3 (.ref u3) := ⟨u3, rfl, .inr ⟨cu3, _, fu3, fcu3⟩⟩
    have hwu3 : Dy (fun b => b ≠ d) Gu3 wu3 D := hwu3.keep (fun _ _ _ e => e) fun b o _ hb => fun z => by obtain ⟨_, _, _, hd⟩ := d0.new (o := exo u3 (C .NothingToUndo) none) hu3; rw [z, hd] at hb; cases hb
    clear d0
    have d0 := dk
    refine ⟨v, rfl, by show 1 ≤ 1000; decide, fun u4 hu4 => ⟨u4, v, D, rfl, upd_same, (hD.keep (B := fun _ => True) (fun b o nb e => (upd_ne (ne_of_none (x2 b o nb e) hu4)).trans (x2 b o nb e)) fun _ _ _ _ => trivial), gD, fun wu4 cu4 Gu4 kp fu4 fcu4 hwu4 => ⟨rfl, ?_⟩⟩⟩
    have nu4 : u4 ≠ d := dk.ne hu4
    have su4 : Same Gu3 Gu4 := fun b o e => kp b o (ne_of_none e hu4) ((upd_ne (ne_of_none e hu4)).trans e)
    have fL := su4 _ _ fL
    have fu1 := su4 _ _ fu1
    have fcu1 := su4 _ _ fcu1
    have fu2 := su4 _ _ fu2
    have fcu2 := su4 _ _ fcu2
    have fu3 := su4 _ _ fu3
    have fcu3 := su4 _ _ fcu3
    have es := es.imp fun _ _ z => IsE.nl ((NL.refl Gu3).same su4) z
    have ia := IsE.nl ((NL.refl Gu3).same su4) ia
    have iu1 := IsE.nl ((NL.refl Gu3).same su4) iu1
    have hwu1 := hwu1.keep (fun b o n e => (Ext.same (d := d) su4) b o n e) fun _ _ _ z => z
    have iu2 := IsE.nl ((NL.refl Gu3).same su4) iu2
    have hwu2 := hwu2.keep (fun b o n e => (Ext.same (d := d) su4) b o n e) fun _ _ _ z => z
    have iu3 := IsE.nl ((NL.refl Gu3).same su4) iu3
    have hwu3 := hwu3.keep (fun b o n e => (Ext.same (d := d) su4) b o n e) fun _ _ _ z => z
    have xk := xk.trans (Ext.same su4)
    have x2 := x2.trans (Ext.same su4)
    have dk := dk.same su4
    have iu4 : IsE (C .TooMany) Gu4 (.ref u4) := ⟨u4, rfl, .inr ⟨cu4, _, fu4, fcu4⟩⟩
    have hwu4 : Dy (fun b => b ≠ d) Gu4 wu4 D := hwu4.keep (fun _ _ _ e => e) fun b o _ hb => fun z => by obtain ⟨_, _, _, hd⟩ := d0.new (o := exo u4 (C .TooMany) none) hu4; rw [z, hd] at hb; cases hb
    clear d0
    have d0 := dk
    refine ⟨v, rfl, by show 1 ≤ 1000; decide, fun u5 hu5 => ⟨u5, v, D, rfl, upd_same, (hD.keep (B := fun _ => True) (fun b o nb e => (upd_ne (ne_of_none (x2 b o nb e) hu5)).trans (x2 b o nb e)) fun _ _ _ _ => trivial), gD, fun wu5 cu5 Gu5 kp fu5 fcu5 hwu5 => ⟨rfl, ?_⟩⟩⟩
    have nu5 : u5 ≠ d := dk.ne hu5
    have su5 : Same Gu4 Gu5 := fun b o e => kp b o (ne_of_none e hu5) ((upd_ne (ne_of_none e hu5)).trans e)
    have fL := su5 _ _ fL
    have fu1 := su5 _ _ fu1
    have fcu1 := su5 _ _ fcu1
    have fu2 := su5 _ _ fu2
    have fcu2 := su5 _ _ fcu2
    have fu3 := su5 _ _ fu3
    have fcu3 := su5 _ _ fcu3
    have fu4 := su5 _ _ fu4
    have fcu4 := su5 _ _ fcu4
    have es := es.imp fun _ _ z => IsE.nl ((NL.refl Gu4).same su5) z
    have ia := IsE.nl ((NL.refl Gu4).same su5) ia
    have iu1 := IsE.nl ((NL.refl Gu4).same su5) iu1
    have hwu1 := hwu1.keep (fun b o n e => (Ext.same (d := d) su5) b o n e) fun _ _ _ z => z
    have iu2 := IsE.nl ((NL.refl Gu4).same su5) iu2
    have hwu2 := hwu2.keep (fun b o n e => (Ext.same (d := d) su5) b o n e) fun _ _ _ z => z
    have iu3 := IsE.nl ((NL.refl Gu4).same su5) iu3
    have hwu3 := hwu3.keep (fun b o n e => (Ext.same (d := d) su5) b o n e) fun _ _ _ z => z
    have iu4 := IsE.nl ((NL.refl Gu4).same su5) iu4
    have hwu4 := hwu4.keep (fun b o n e => (Ext.same (d := d) su5) b o n e) fun _ _ _ z => z
    have xk := xk.trans (Ext.same su5)
    have x2 := x2.trans (Ext.same su5)
    have dk := dk.same su5
    have iu5 : IsE (C .Refused) Gu5 (.ref u5) := ⟨u5, rfl, .inr ⟨cu5, _, fu5, fcu5⟩⟩
    have hwu5 : Dy (fun b => b ≠ d) Gu5 wu5 D := hwu5.keep (fun _ _ _ e => e) fun b o _ hb => fun z => by obtain ⟨_, _, _, hd⟩ := d0.new (o := exo u5 (C .Refused) none) hu5; rw [z, hd] at hb; cases hb
    clear d0
    refine ⟨lt_line (by show 5 ≤ 1000000; decide), fun M hM => asg_go2 ?_⟩
    dsimp only [List.set]
    have nLM : L ≠ M := ne_of_none fL hM
    have hHM : H M = none := xk.none (dk.ne hM) hM
    have h2M : H1 M = none := x2.none (dk.ne hM) hM
    have hwu1 : Dy (fun b => b ≠ d ∧ b ≠ M) Gu5 wu1 D := hwu1.keep (fun _ _ _ e => e) fun b o e n => ⟨n, ne_of_none e hM⟩
    have hwu2 : Dy (fun b => b ≠ d ∧ b ≠ M) Gu5 wu2 D := hwu2.keep (fun _ _ _ e => e) fun b o e n => ⟨n, ne_of_none e hM⟩
    have hwu3 : Dy (fun b => b ≠ d ∧ b ≠ M) Gu5 wu3 D := hwu3.keep (fun _ _ _ e => e) fun b o e n => ⟨n, ne_of_none e hM⟩
    have hwu4 : Dy (fun b => b ≠ d ∧ b ≠ M) Gu5 wu4 D := hwu4.keep (fun _ _ _ e => e) fun b o e n => ⟨n, ne_of_none e hM⟩
    have hwu5 : Dy (fun b => b ≠ d ∧ b ≠ M) Gu5 wu5 D := hwu5.keep (fun _ _ _ e => e) fun b o e n => ⟨n, ne_of_none e hM⟩
    have nM : M ≠ d := dk.ne hM
    have fL := (upd_ne (o := .lst [.ref u1, .ref u2, .ref u3, .ref u4, .ref u5]) (ne_of_none fL hM)).trans fL
    have fu1 := (upd_ne (o := .lst [.ref u1, .ref u2, .ref u3, .ref u4, .ref u5]) (ne_of_none fu1 hM)).trans fu1
    have fcu1 := (upd_ne (o := .lst [.ref u1, .ref u2, .ref u3, .ref u4, .ref u5]) (ne_of_none fcu1 hM)).trans fcu1
    have fu2 := (upd_ne (o := .lst [.ref u1, .ref u2, .ref u3, .ref u4, .ref u5]) (ne_of_none fu2 hM)).trans fu2
    have fcu2 := (upd_ne (o := .lst [.ref u1, .ref u2, .ref u3, .ref u4, .ref u5]) (ne_of_none fcu2 hM)).trans fcu2
    have fu3 := (upd_ne (o := .lst [.ref u1, .ref u2, .ref u3, .ref u4, .ref u5]) (ne_of_none fu3 hM)).trans fu3
    have fcu3 := (upd_ne (o := .lst [.ref u1, .ref u2, .ref u3, .ref u4, .ref u5]) (ne_of_none fcu3 hM)).trans fcu3
    have fu4 := (upd_ne (o := .lst [.ref u1, .ref u2, .ref u3, .ref u4, .ref u5]) (ne_of_none fu4 hM)).trans fu4
    have fcu4 := (upd_ne (o := .lst [.ref u1, .ref u2, .ref u3, .ref u4, .ref u5]) (ne_of_none fcu4 hM)).trans fcu4
    have fu5 := (upd_ne (o := .lst [.ref u1, .ref u2, .ref u3, .ref u4, .ref u5]) (ne_of_none fu5 hM)).trans fu5
    have fcu5 := (upd_ne (o := .lst [.ref u1, .ref u2, .ref u3, .ref u4, .ref u5]) (ne_of_none fcu5 hM)).trans fcu5
    have es := es.imp fun _ _ z => IsE.nl ((NL.refl Gu5).new (o := .lst [.ref u1, .ref u2, .ref u3, .ref u4, .ref u5]) hM) z
    have ia := IsE.nl ((NL.refl Gu5).new (o := .lst [.ref u1, .ref u2, .ref u3, .ref u4, .ref u5]) hM) ia
    have iu1 := IsE.nl ((NL.refl Gu5).new (o := .lst [.ref u1, .ref u2, .ref u3, .ref u4, .ref u5]) hM) iu1
    have hwu1 := hwu1.keep (fun b o n e => ((Ext.refl (d := d) Gu5).new (o := .lst [.ref u1, .ref u2, .ref u3, .ref u4, .ref u5]) hM) b o n.1 e) fun _ _ _ z => z
    have iu2 := IsE.nl ((NL.refl Gu5).new (o := .lst [.ref u1, .ref u2, .ref u3, .ref u4, .ref u5]) hM) iu2
    have hwu2 := hwu2.keep (fun b o n e => ((Ext.refl (d := d) Gu5).new (o := .lst [.ref u1, .ref u2, .ref u3, .ref u4, .ref u5]) hM) b o n.1 e) fun _ _ _ z => z
    have iu3 := IsE.nl ((NL.refl Gu5).new (o := .lst [.ref u1, .ref u2, .ref u3, .ref u4, .ref u5]) hM) iu3
    have hwu3 := hwu3.keep (fun b o n e => ((Ext.refl (d := d) Gu5).new (o := .lst [.ref u1, .ref u2, .ref u3, .ref u4, .ref u5]) hM) b o n.1 e) fun _ _ _ z => z
    have iu4 := IsE.nl ((NL.refl Gu5).new (o := .lst [.ref u1, .ref u2, .ref u3, .ref u4, .ref u5]) hM) iu4
    have hwu4 := hwu4.keep (fun b o n e => ((Ext.refl (d := d) Gu5).new (o := .lst [.ref u1, .ref u2, .ref u3, .ref u4, .ref u5]) hM) b o n.1 e) fun _ _ _ z => z
    have iu5 := IsE.nl ((NL.refl Gu5).new (o := .lst [.ref u1, .ref u2, .ref u3, .ref u4, .ref u5]) hM) iu5
    have hwu5 := hwu5.keep (fun b o n e => ((Ext.refl (d := d) Gu5).new (o := .lst [.ref u1, .ref u2, .ref u3, .ref u4, .ref u5]) hM) b o n.1 e) fun _ _ _ z => z
    have xk := xk.new (o := .lst [.ref u1, .ref u2, .ref u3, .ref u4, .ref u5]) hM
    have dk := dk.new (o := .lst [.ref u1, .ref u2, .ref u3, .ref u4, .ref u5]) hM
    have x2 := x2.new (o := .lst [.ref u1, .ref u2, .ref u3, .ref u4, .ref u5]) hM
    have fM : upd Gu5 M (.lst [.ref u1, .ref u2, .ref u3, .ref u4, .ref u5]) M = some (.lst [.ref u1, .ref u2, .ref u3, .ref u4, .ref u5]) := upd_same
    generalize upd Gu5 M (.lst [.ref u1, .ref u2, .ref u3, .ref u4, .ref u5]) = K37 at xk dk fM x2 fL fu1 fcu1 fu2 fcu2 fu3 fcu3 fu4 fcu4 fu5 fcu5 es ia iu1 hwu1 iu2 hwu2 iu3 hwu3 iu4 hwu4 iu5 hwu5 ⊢
    have dM := dk
    have fM0 := fM
    refine ⟨.ref M, rfl, .inl ⟨rfl, _, SqL.of fM⟩, v, rfl, by show 1 ≤ 1000; decide, fun u6 hu6 => ⟨u6, v, D, rfl, upd_same, (hD.keep (B := fun _ => True) (fun b o nb e => (upd_ne (ne_of_none (x2 b o nb e) hu6)).trans (x2 b o nb e)) fun _ _ _ _ => trivial), gD, fun wu6 cu6 Gu6 kp fu6 fcu6 hwu6 => ⟨rfl, ?_⟩⟩⟩
    have nu6 : u6 ≠ d := dk.ne hu6
    have su6 : Same K37 Gu6 := fun b o e => kp b o (ne_of_none e hu6) ((upd_ne (ne_of_none e hu6)).trans e)
    have fL := su6 _ _ fL
    have fu1 := su6 _ _ fu1
    have fcu1 := su6 _ _ fcu1
    have fu2 := su6 _ _ fu2
    have fcu2 := su6 _ _ fcu2
    have fu3 := su6 _ _ fu3
    have fcu3 := su6 _ _ fcu3
    have fu4 := su6 _ _ fu4
    have fcu4 := su6 _ _ fcu4
    have fu5 := su6 _ _ fu5
    have fcu5 := su6 _ _ fcu5
    have fM := su6 _ _ fM
    have es := es.imp fun _ _ z => IsE.nl ((NL.refl K37).same su6) z
    have ia := IsE.nl ((NL.refl K37).same su6) ia
    have iu1 := IsE.nl ((NL.refl K37).same su6) iu1
    have hwu1 := hwu1.keep (fun b o n e => (Ext.same (d := d) su6) b o n.1 e) fun _ _ _ z => z
    have iu2 := IsE.nl ((NL.refl K37).same su6) iu2
    have hwu2 := hwu2.keep (fun b o n e => (Ext.same (d := d) su6) b o n.1 e) fun _ _ _ z => z
    have iu3 := IsE.nl ((NL.refl K37).same su6) iu3
    have hwu3 := hwu3.keep (fun b o n e => (Ext.same (d := d) su6) b o n.1 e) fun _ _ _ z => z
    have iu4 := IsE.nl ((NL.refl K37).same su6) iu4
    have hwu4 := hwu4.keep (fun b o n e => (Ext.same (d := d) su6) b o n.1 e) fun _ _ _ z => z
    have iu5 := IsE.nl ((NL.refl K37).same su6) iu5
    have hwu5 := hwu5.keep (fun b o n e => (Ext.same (d := d) su6) b o n.1 e) fun _ _ _ z => z
    have xk := xk.trans (Ext.same su6)
    have x2 := x2.trans (Ext.same su6)
    have dk := dk.same su6
    have iu6 : IsE (C .InvalidNumber) Gu6 (.ref u6) := ⟨u6, rfl, .inr ⟨cu6, _, fu6, fcu6⟩⟩
    have hwu6 : Dy (fun b => b ≠ d ∧ b ≠ M) Gu6 wu6 D := hwu6.keep (fun _ _ _ e => e) fun b o _ hb => ⟨fun z => (by obtain ⟨_, _, _, hd⟩ := dM.new (o := exo u6 (C .InvalidNumber) none) hu6; rw [z, hd] at hb; cases hb), fun z => (by rw [z, upd_ne (ne_of_none fM0 hu6), fM0] at hb; cases hb)⟩
    clear dM fM0
    refine ⟨M, _, .ref u6, rfl, rfl, fM, lt_line' (by show 5 < 1000000; decide), ?_⟩
    have nk := (NL.refl Gu6).set (o := .lst ([.ref u1, .ref u2, .ref u3, .ref u4, .ref u5] ++ [.ref u6])) fM
    have es := es.imp fun _ _ z => IsE.nl nk z
    have ia := IsE.nl nk ia
    have iu1 := IsE.nl nk iu1
    have fu1 := nk _ _ (fun _ => exo_l) fu1
    have fcu1 := nk _ _ (fun _ => exd_l) fcu1
    have hwu1 : Dy (fun b => b ≠ d) (upd Gu6 M (.lst ([.ref u1, .ref u2, .ref u3, .ref u4, .ref u5] ++ [.ref u6]))) wu1 D := hwu1.keep (fun b o n e => (upd_ne n.2).trans e) fun _ _ _ z => z.1
    have iu2 := IsE.nl nk iu2
    have fu2 := nk _ _ (fun _ => exo_l) fu2
    have fcu2 := nk _ _ (fun _ => exd_l) fcu2
    have hwu2 : Dy (fun b => b ≠ d) (upd Gu6 M (.lst ([.ref u1, .ref u2, .ref u3, .ref u4, .ref u5] ++ [.ref u6]))) wu2 D := hwu2.keep (fun b o n e => (upd_ne n.2).trans e) fun _ _ _ z => z.1
    have iu3 := IsE.nl nk iu3
    have fu3 := nk _ _ (fun _ => exo_l) fu3
    have fcu3 := nk _ _ (fun _ => exd_l) fcu3
    have hwu3 : Dy (fun b => b ≠ d) (upd Gu6 M (.lst ([.ref u1, .ref u2, .ref u3, .ref u4, .ref u5] ++ [.ref u6]))) wu3 D := hwu3.keep (fun b o n e => (upd_ne n.2).trans e) fun _ _ _ z => z.1
    have iu4 := IsE.nl nk iu4
    have fu4 := nk _ _ (fun _ => exo_l) fu4
    have fcu4 := nk _ _ (fun _ => exd_l) fcu4
    have hwu4 : Dy (fun b => b ≠ d) (upd Gu6 M (.lst ([.ref u1, .ref u2, .ref u3, .ref u4, .ref u5] ++ [.ref u6]))) wu4 D := hwu4.keep (fun b o n e => (upd_ne n.2).trans e) fun _ _ _ z => z.1
    have iu5 := IsE.nl nk iu5
    have fu5 := nk _ _ (fun _ => exo_l) fu5
    have fcu5 := nk _ _ (fun _ => exd_l) fcu5
    have hwu5 : Dy (fun b => b ≠ d) (upd Gu6 M (.lst ([.ref u1, .ref u2, .ref u3, .ref u4, .ref u5] ++ [.ref u6]))) wu5 D := hwu5.keep (fun b o n e => (upd_ne n.2).trans e) fun _ _ _ z => z.1
    have iu6 := IsE.nl nk iu6
    have fu6 := nk _ _ (fun _ => exo_l) fu6
    have fcu6 := nk _ _ (fun _ => exd_l) fcu6
    have hwu6 : Dy (fun b => b ≠ d) (upd Gu6 M (.lst ([.ref u1, .ref u2, .ref u3, .ref u4, .ref u5] ++ [.ref u6]))) wu6 D := hwu6.keep (fun b o n e => (upd_ne n.2).trans e) fun _ _ _ z => z.1
    have fL := (upd_ne (o := .lst ([.ref u1, .ref u2, .ref u3, .ref u4, .ref u5] ++ [.ref u6])) nLM).trans fL
    have xk := xk.mut (o := .lst ([.ref u1, .ref u2, .ref u3, .ref u4, .ref u5] ++ [.ref u6])) hHM
    have x2 := x2.mut (o := .lst ([.ref u1, .ref u2, .ref u3, .ref u4, .ref u5] ++ [.ref u6])) h2M
    have dk := dk.mut (o := .lst ([.ref u1, .ref u2, .ref u3, .ref u4, .ref u5] ++ [.ref u6])) nM
    have fM : upd Gu6 M (.lst ([.ref u1, .ref u2, .ref u3, .ref u4, .ref u5] ++ [.ref u6])) M = some (.lst [.ref u1, .ref u2, .ref u3, .ref u4, .ref u5, .ref u6]) := upd_same
    have r6 : Row (fun v n => IsE (C n) (upd Gu6 M (.lst ([.ref u1, .ref u2, .ref u3, .ref u4, .ref u5] ++ [.ref u6]))) v) [.ref u1, .ref u2, .ref u3, .ref u4, .ref u5, .ref u6] ns6 := ⟨iu1, iu2, iu3, iu4, iu5, iu6, trivial⟩
    generalize upd Gu6 M (.lst ([.ref u1, .ref u2, .ref u3, .ref u4, .ref u5] ++ [.ref u6])) = B3 at xk x2 dk fL fM es ia r6 fu1 fu2 fu3 fu4 fu5 fu6 fcu1 fcu2 fcu3 fcu4 fcu5 fcu6 hwu1 hwu2 hwu3 hwu4 hwu5 hwu6 ⊢
    clear nk iu1 iu2 iu3 iu4 iu5 iu6
    refine ?_
    refine ⟨lt_line (by show 6 ≤ 1000000; decide), fun l7 hl7 => ?_⟩
    have nl7 : l7 ≠ d := dk.ne hl7
    have fL := (upd_ne (o := .lst [.str "x.....x.x...", .str ".x......x...", .str "..x....xx...", .str "...x.....xx.", .str "....x.....x.", .str ".....x.....x"]) (ne_of_none fL hl7)).trans fL
    have fM := (upd_ne (o := .lst [.str "x.....x.x...", .str ".x......x...", .str "..x....xx...", .str "...x.....xx.", .str "....x.....x.", .str ".....x.....x"]) (ne_of_none fM hl7)).trans fM
    have fu1 := (upd_ne (o := .lst [.str "x.....x.x...", .str ".x......x...", .str "..x....xx...", .str "...x.....xx.", .str "....x.....x.", .str ".....x.....x"]) (ne_of_none fu1 hl7)).trans fu1
    have fu2 := (upd_ne (o := .lst [.str "x.....x.x...", .str ".x......x...", .str "..x....xx...", .str "...x.....xx.", .str "....x.....x.", .str ".....x.....x"]) (ne_of_none fu2 hl7)).trans fu2
    have fu3 := (upd_ne (o := .lst [.str "x.....x.x...", .str ".x......x...", .str "..x....xx...", .str "...x.....xx.", .str "....x.....x.", .str ".....x.....x"]) (ne_of_none fu3 hl7)).trans fu3
    have fu4 := (upd_ne (o := .lst [.str "x.....x.x...", .str ".x......x...", .str "..x....xx...", .str "...x.....xx.", .str "....x.....x.", .str ".....x.....x"]) (ne_of_none fu4 hl7)).trans fu4
    have fu5 := (upd_ne (o := .lst [.str "x.....x.x...", .str ".x......x...", .str "..x....xx...", .str "...x.....xx.", .str "....x.....x.", .str ".....x.....x"]) (ne_of_none fu5 hl7)).trans fu5
    have fu6 := (upd_ne (o := .lst [.str "x.....x.x...", .str ".x......x...", .str "..x....xx...", .str "...x.....xx.", .str "....x.....x.", .str ".....x.....x"]) (ne_of_none fu6 hl7)).trans fu6
    have fcu1 := (upd_ne (o := .lst [.str "x.....x.x...", .str ".x......x...", .str "..x....xx...", .str "...x.....xx.", .str "....x.....x.", .str ".....x.....x"]) (ne_of_none fcu1 hl7)).trans fcu1
    have fcu2 := (upd_ne (o := .lst [.str "x.....x.x...", .str ".x......x...", .str "..x....xx...", .str "...x.....xx.", .str "....x.....x.", .str ".....x.....x"]) (ne_of_none fcu2 hl7)).trans fcu2
    have fcu3 := (upd_ne (o := .lst [.str "x.....x.x...", .str ".x......x...", .str "..x....xx...", .str "...x.....xx.", .str "....x.....x.", .str ".....x.....x"]) (ne_of_none fcu3 hl7)).trans fcu3
    have fcu4 := (upd_ne (o := .lst [.str "x.....x.x...", .str ".x......x...", .str "..x....xx...", .str "...x.....xx.", .str "....x.....x.", .str ".....x.....x"]) (ne_of_none fcu4 hl7)).trans fcu4
    have fcu5 := (upd_ne (o := .lst [.str "x.....x.x...", .str ".x......x...", .str "..x....xx...", .str "...x.....xx.", .str "....x.....x.", .str ".....x.....x"]) (ne_of_none fcu5 hl7)).trans fcu5
    have fcu6 := (upd_ne (o := .lst [.str "x.....x.x...", .str ".x......x...", .str "..x....xx...", .str "...x.....xx.", .str "....x.....x.", .str ".....x.....x"]) (ne_of_none fcu6 hl7)).trans fcu6
    have es := es.imp fun _ _ z => IsE.nl ((NL.refl B3).new (o := .lst [.str "x.....x.x...", .str ".x......x...", .str "..x....xx...", .str "...x.....xx.", .str "....x.....x.", .str ".....x.....x"]) hl7) z
    have ia := IsE.nl ((NL.refl B3).new (o := .lst [.str "x.....x.x...", .str ".x......x...", .str "..x....xx...", .str "...x.....xx.", .str "....x.....x.", .str ".....x.....x"]) hl7) ia
    have r6 := r6.imp fun _ _ z => z.nl ((NL.refl B3).new (o := .lst [.str "x.....x.x...", .str ".x......x...", .str "..x....xx...", .str "...x.....xx.", .str "....x.....x.", .str ".....x.....x"]) hl7)
    have hwu1 := hwu1.keep (fun b o n e => ((Ext.refl (d := d) B3).new (o := .lst [.str "x.....x.x...", .str ".x......x...", .str "..x....xx...", .str "...x.....xx.", .str "....x.....x.", .str ".....x.....x"]) hl7) b o n e) fun _ _ _ z => z
    have hwu2 := hwu2.keep (fun b o n e => ((Ext.refl (d := d) B3).new (o := .lst [.str "x.....x.x...", .str ".x......x...", .str "..x....xx...", .str "...x.....xx.", .str "....x.....x.", .str ".....x.....x"]) hl7) b o n e) fun _ _ _ z => z
    have hwu3 := hwu3.keep (fun b o n e => ((Ext.refl (d := d) B3).new (o := .lst [.str "x.....x.x...", .str ".x......x...", .str "..x....xx...", .str "...x.....xx.", .str "....x.....x.", .str ".....x.....x"]) hl7) b o n e) fun _ _ _ z => z
    have hwu4 := hwu4.keep (fun b o n e => ((Ext.refl (d := d) B3).new (o := .lst [.str "x.....x.x...", .str ".x......x...", .str "..x....xx...", .str "...x.....xx.", .str "....x.....x.", .str ".....x.....x"]) hl7) b o n e) fun _ _ _ z => z
    have hwu5 := hwu5.keep (fun b o n e => ((Ext.refl (d := d) B3).new (o := .lst [.str "x.....x.x...", .str ".x......x...", .str "..x....xx...", .str "...x.....xx.", .str "....x.....x.", .str ".....x.....x"]) hl7) b o n e) fun _ _ _ z => z
    have hwu6 := hwu6.keep (fun b o n e => ((Ext.refl (d := d) B3).new (o := .lst [.str "x.....x.x...", .str ".x......x...", .str "..x....xx...", .str "...x.....xx.", .str "....x.....x.", .str ".....x.....x"]) hl7) b o n e) fun _ _ _ z => z
    have xk := xk.new (o := .lst [.str "x.....x.x...", .str ".x......x...", .str "..x....xx...", .str "...x.....xx.", .str "....x.....x.", .str ".....x.....x"]) hl7
    have dk := dk.new (o := .lst [.str "x.....x.x...", .str ".x......x...", .str "..x....xx...", .str "...x.....xx.", .str "....x.....x.", .str ".....x.....x"]) hl7
    have x2 := x2.new (o := .lst [.str "x.....x.x...", .str ".x......x...", .str "..x....xx...", .str "...x.....xx.", .str "....x.....x.", .str ".....x.....x"]) hl7
    have fl7 : upd B3 l7 (.lst [.str "x.....x.x...", .str ".x......x...", .str "..x....xx...", .str "...x.....xx.", .str "....x.....x.", .str ".....x.....x"]) l7 = some (.lst [.str "x.....x.x...", .str ".x......x...", .str "..x....xx...", .str "...x.....xx.", .str "....x.....x.", .str ".....x.....x"]) := upd_same
    generalize upd B3 l7 (.lst [.str "x.....x.x...", .str ".x......x...", .str "..x....xx...", .str "...x.....xx.", .str "....x.....x.", .str ".....x.....x"]) = K38 at xk dk fl7 x2 fL fM fu1 fu2 fu3 fu4 fu5 fu6 fcu1 fcu2 fcu3 fcu4 fcu5 fcu6 es ia r6 hwu1 hwu2 hwu3 hwu4 hwu5 hwu6 ⊢
    have fl7 : K38 l7 = some (.lst (due6.map V.str)) := fl7
    refine asg_go2 ?_
    dsimp only [List.set]
    refine ⟨.ref M, rfl, M, rfl, ⟨_, SqL.of fM⟩, fun D6 hD6 => lc_list (xs := [V.ref u1, V.ref u2, V.ref u3, V.ref u4, V.ref u5, V.ref u6]) (fun i H' => H' D6 = some (.lst (((ns6.take i).map _law_othersT).map V.str)) ∧ Same K38 H') ⟨upd_same, (Same.refl _).mut hD6⟩ (fun i H' _ hP => SqL.of (hP.2 _ _ fM)) (fun i y H' hy hP => ?_) (fun GD6 hP => ?_)⟩
    · obtain ⟨hq, s1⟩ := hP
      obtain ⟨n, en, rn⟩ := r6.get hy
      have en : ns6[i]? = some n := en
      have li := lt_of_get en
      have lN : ns6.length = 6 := rfl
      refine ⟨rfl, tyes ?_⟩
      refine ⟨y, rfl, y, n, rfl, IsE.same s1 rn, fun H2 s2 => ?_⟩
      exact ⟨_, s2 _ _ hq, lt_line' (by rw [List.length_map, List.length_map, List.length_take]; omega), by rw [upd_same, take_next en, List.map_append, List.map_append]; rfl, (s1.trans s2).mut hD6⟩
    obtain ⟨fD6, sD6⟩ := hP
    rw [show [V.ref u1, V.ref u2, V.ref u3, V.ref u4, V.ref u5, V.ref u6].length = ns6.length from r6.len, List.take_length] at fD6
    have fL := sD6 _ _ fL
    have fM := sD6 _ _ fM
    have fu1 := sD6 _ _ fu1
    have fu2 := sD6 _ _ fu2
    have fu3 := sD6 _ _ fu3
    have fu4 := sD6 _ _ fu4
    have fu5 := sD6 _ _ fu5
    have fu6 := sD6 _ _ fu6
    have fcu1 := sD6 _ _ fcu1
    have fcu2 := sD6 _ _ fcu2
    have fcu3 := sD6 _ _ fcu3
    have fcu4 := sD6 _ _ fcu4
    have fcu5 := sD6 _ _ fcu5
    have fcu6 := sD6 _ _ fcu6
    have fl7 := sD6 _ _ fl7
    have es := es.imp fun _ _ z => IsE.nl ((NL.refl K38).same sD6) z
    have ia := IsE.nl ((NL.refl K38).same sD6) ia
    have r6 := r6.imp fun _ _ z => z.nl ((NL.refl K38).same sD6)
    have hwu1 := hwu1.keep (fun b o n e => (Ext.same (d := d) sD6) b o n e) fun _ _ _ z => z
    have hwu2 := hwu2.keep (fun b o n e => (Ext.same (d := d) sD6) b o n e) fun _ _ _ z => z
    have hwu3 := hwu3.keep (fun b o n e => (Ext.same (d := d) sD6) b o n e) fun _ _ _ z => z
    have hwu4 := hwu4.keep (fun b o n e => (Ext.same (d := d) sD6) b o n e) fun _ _ _ z => z
    have hwu5 := hwu5.keep (fun b o n e => (Ext.same (d := d) sD6) b o n e) fun _ _ _ z => z
    have hwu6 := hwu6.keep (fun b o n e => (Ext.same (d := d) sD6) b o n e) fun _ _ _ z => z
    have xk := xk.trans (Ext.same sD6)
    have x2 := x2.trans (Ext.same sD6)
    have dk := dk.same sD6
    refine ⟨.ref l7, rfl, _, _, .lst (SqL.of fD6) (dpz_strs _), .lst (SqL.of fl7) (dpz_strs _), shp_all (by decide +kernel), shp_all (by decide +kernel), _, rfl, ?_⟩
    rw [eqz_strs, decide_eq_true t_others6]
    refine iteF ?_
    refine ⟨.ref M, rfl, M, rfl, ⟨_, SqL.of fM⟩, fun D7 hD7 => lc_list (xs := [V.ref u1, V.ref u2, V.ref u3, V.ref u4, V.ref u5, V.ref u6]) (fun i H' => H' D7 = some (.lst (((ns6.take i).map _law_kindsT).map V.str)) ∧ Same GD6 H') ⟨upd_same, (Same.refl _).mut hD7⟩ (fun i H' _ hP => SqL.of (hP.2 _ _ fM)) (fun i y H' hy hP => ?_) (fun GD7 hP => ?_)⟩
    · obtain ⟨hq, s1⟩ := hP
      obtain ⟨n, en, rn⟩ := r6.get hy
      have en : ns6[i]? = some n := en
      have li := lt_of_get en
      have lN : ns6.length = 6 := rfl
      refine ⟨rfl, tyes ?_⟩
      refine ⟨y, rfl, y, n, rfl, IsE.same s1 rn, fun H2 s2 => ?_⟩
      exact ⟨_, s2 _ _ hq, lt_line' (by rw [List.length_map, List.length_map, List.length_take]; omega), by rw [upd_same, take_next en, List.map_append, List.map_append]; rfl, (s1.trans s2).mut hD7⟩
    obtain ⟨fD7, sD7⟩ := hP
    rw [show [V.ref u1, V.ref u2, V.ref u3, V.ref u4, V.ref u5, V.ref u6].length = ns6.length from r6.len, List.take_length] at fD7
    have fL := sD7 _ _ fL
    have fM := sD7 _ _ fM
    have fu1 := sD7 _ _ fu1
    have fu2 := sD7 _ _ fu2
    have fu3 := sD7 _ _ fu3
    have fu4 := sD7 _ _ fu4
    have fu5 := sD7 _ _ fu5
    have fu6 := sD7 _ _ fu6
    have fcu1 := sD7 _ _ fcu1
    have fcu2 := sD7 _ _ fcu2
    have fcu3 := sD7 _ _ fcu3
    have fcu4 := sD7 _ _ fcu4
    have fcu5 := sD7 _ _ fcu5
    have fcu6 := sD7 _ _ fcu6
    have es := es.imp fun _ _ z => IsE.nl ((NL.refl GD6).same sD7) z
    have ia := IsE.nl ((NL.refl GD6).same sD7) ia
    have r6 := r6.imp fun _ _ z => z.nl ((NL.refl GD6).same sD7)
    have hwu1 := hwu1.keep (fun b o n e => (Ext.same (d := d) sD7) b o n e) fun _ _ _ z => z
    have hwu2 := hwu2.keep (fun b o n e => (Ext.same (d := d) sD7) b o n e) fun _ _ _ z => z
    have hwu3 := hwu3.keep (fun b o n e => (Ext.same (d := d) sD7) b o n e) fun _ _ _ z => z
    have hwu4 := hwu4.keep (fun b o n e => (Ext.same (d := d) sD7) b o n e) fun _ _ _ z => z
    have hwu5 := hwu5.keep (fun b o n e => (Ext.same (d := d) sD7) b o n e) fun _ _ _ z => z
    have hwu6 := hwu6.keep (fun b o n e => (Ext.same (d := d) sD7) b o n e) fun _ _ _ z => z
    have xk := xk.trans (Ext.same sD7)
    have x2 := x2.trans (Ext.same sD7)
    have dk := dk.same sD7
    refine ⟨".", 11, rfl, rfl, by decide, by decide, by decide, lt_line (by show 1 ≤ 1000000; decide), fun m8 hm8 => ?_⟩
    have nm8 : m8 ≠ d := dk.ne hm8
    have fL := (upd_ne (o := .lst [.str (repS "." 11)]) (ne_of_none fL hm8)).trans fL
    have fM := (upd_ne (o := .lst [.str (repS "." 11)]) (ne_of_none fM hm8)).trans fM
    have fu1 := (upd_ne (o := .lst [.str (repS "." 11)]) (ne_of_none fu1 hm8)).trans fu1
    have fu2 := (upd_ne (o := .lst [.str (repS "." 11)]) (ne_of_none fu2 hm8)).trans fu2
    have fu3 := (upd_ne (o := .lst [.str (repS "." 11)]) (ne_of_none fu3 hm8)).trans fu3
    have fu4 := (upd_ne (o := .lst [.str (repS "." 11)]) (ne_of_none fu4 hm8)).trans fu4
    have fu5 := (upd_ne (o := .lst [.str (repS "." 11)]) (ne_of_none fu5 hm8)).trans fu5
    have fu6 := (upd_ne (o := .lst [.str (repS "." 11)]) (ne_of_none fu6 hm8)).trans fu6
    have fcu1 := (upd_ne (o := .lst [.str (repS "." 11)]) (ne_of_none fcu1 hm8)).trans fcu1
    have fcu2 := (upd_ne (o := .lst [.str (repS "." 11)]) (ne_of_none fcu2 hm8)).trans fcu2
    have fcu3 := (upd_ne (o := .lst [.str (repS "." 11)]) (ne_of_none fcu3 hm8)).trans fcu3
    have fcu4 := (upd_ne (o := .lst [.str (repS "." 11)]) (ne_of_none fcu4 hm8)).trans fcu4
    have fcu5 := (upd_ne (o := .lst [.str (repS "." 11)]) (ne_of_none fcu5 hm8)).trans fcu5
    have fcu6 := (upd_ne (o := .lst [.str (repS "." 11)]) (ne_of_none fcu6 hm8)).trans fcu6
    have fD7 := (upd_ne (o := .lst [.str (repS "." 11)]) (ne_of_none fD7 hm8)).trans fD7
    have es := es.imp fun _ _ z => IsE.nl ((NL.refl GD7).new (o := .lst [.str (repS "." 11)]) hm8) z
    have ia := IsE.nl ((NL.refl GD7).new (o := .lst [.str (repS "." 11)]) hm8) ia
    have r6 := r6.imp fun _ _ z => z.nl ((NL.refl GD7).new (o := .lst [.str (repS "." 11)]) hm8)
    have hwu1 := hwu1.keep (fun b o n e => ((Ext.refl (d := d) GD7).new (o := .lst [.str (repS "." 11)]) hm8) b o n e) fun _ _ _ z => z
    have hwu2 := hwu2.keep (fun b o n e => ((Ext.refl (d := d) GD7).new (o := .lst [.str (repS "." 11)]) hm8) b o n e) fun _ _ _ z => z
    have hwu3 := hwu3.keep (fun b o n e => ((Ext.refl (d := d) GD7).new (o := .lst [.str (repS "." 11)]) hm8) b o n e) fun _ _ _ z => z
    have hwu4 := hwu4.keep (fun b o n e => ((Ext.refl (d := d) GD7).new (o := .lst [.str (repS "." 11)]) hm8) b o n e) fun _ _ _ z => z
    have hwu5 := hwu5.keep (fun b o n e => ((Ext.refl (d := d) GD7).new (o := .lst [.str (repS "." 11)]) hm8) b o n e) fun _ _ _ z => z
    have hwu6 := hwu6.keep (fun b o n e => ((Ext.refl (d := d) GD7).new (o := .lst [.str (repS "." 11)]) hm8) b o n e) fun _ _ _ z => z
    have xk := xk.new (o := .lst [.str (repS "." 11)]) hm8
    have dk := dk.new (o := .lst [.str (repS "." 11)]) hm8
    have x2 := x2.new (o := .lst [.str (repS "." 11)]) hm8
    have fm8 : upd GD7 m8 (.lst [.str (repS "." 11)]) m8 = some (.lst [.str (repS "." 11)]) := upd_same
    generalize upd GD7 m8 (.lst [.str (repS "." 11)]) = K39 at xk dk fm8 x2 fL fM fu1 fu2 fu3 fu4 fu5 fu6 fcu1 fcu2 fcu3 fcu4 fcu5 fcu6 fD7 es ia r6 hwu1 hwu2 hwu3 hwu4 hwu5 hwu6 ⊢
    refine ⟨m8, 6, [.str (repS "." 11)], rfl, rfl, fm8, by decide, by decide, lt_line (by show 1 * 6 ≤ 1000000; decide), fun p8 hp8 => ?_⟩
    have np8 : p8 ≠ d := dk.ne hp8
    have fL := (upd_ne (o := .lst (List.replicate (6 : Int).toNat [V.str (repS "." 11)]).flatten) (ne_of_none fL hp8)).trans fL
    have fM := (upd_ne (o := .lst (List.replicate (6 : Int).toNat [V.str (repS "." 11)]).flatten) (ne_of_none fM hp8)).trans fM
    have fu1 := (upd_ne (o := .lst (List.replicate (6 : Int).toNat [V.str (repS "." 11)]).flatten) (ne_of_none fu1 hp8)).trans fu1
    have fu2 := (upd_ne (o := .lst (List.replicate (6 : Int).toNat [V.str (repS "." 11)]).flatten) (ne_of_none fu2 hp8)).trans fu2
    have fu3 := (upd_ne (o := .lst (List.replicate (6 : Int).toNat [V.str (repS "." 11)]).flatten) (ne_of_none fu3 hp8)).trans fu3
    have fu4 := (upd_ne (o := .lst (List.replicate (6 : Int).toNat [V.str (repS "." 11)]).flatten) (ne_of_none fu4 hp8)).trans fu4
    have fu5 := (upd_ne (o := .lst (List.replicate (6 : Int).toNat [V.str (repS "." 11)]).flatten) (ne_of_none fu5 hp8)).trans fu5
    have fu6 := (upd_ne (o := .lst (List.replicate (6 : Int).toNat [V.str (repS "." 11)]).flatten) (ne_of_none fu6 hp8)).trans fu6
    have fcu1 := (upd_ne (o := .lst (List.replicate (6 : Int).toNat [V.str (repS "." 11)]).flatten) (ne_of_none fcu1 hp8)).trans fcu1
    have fcu2 := (upd_ne (o := .lst (List.replicate (6 : Int).toNat [V.str (repS "." 11)]).flatten) (ne_of_none fcu2 hp8)).trans fcu2
    have fcu3 := (upd_ne (o := .lst (List.replicate (6 : Int).toNat [V.str (repS "." 11)]).flatten) (ne_of_none fcu3 hp8)).trans fcu3
    have fcu4 := (upd_ne (o := .lst (List.replicate (6 : Int).toNat [V.str (repS "." 11)]).flatten) (ne_of_none fcu4 hp8)).trans fcu4
    have fcu5 := (upd_ne (o := .lst (List.replicate (6 : Int).toNat [V.str (repS "." 11)]).flatten) (ne_of_none fcu5 hp8)).trans fcu5
    have fcu6 := (upd_ne (o := .lst (List.replicate (6 : Int).toNat [V.str (repS "." 11)]).flatten) (ne_of_none fcu6 hp8)).trans fcu6
    have fD7 := (upd_ne (o := .lst (List.replicate (6 : Int).toNat [V.str (repS "." 11)]).flatten) (ne_of_none fD7 hp8)).trans fD7
    have es := es.imp fun _ _ z => IsE.nl ((NL.refl K39).new (o := .lst (List.replicate (6 : Int).toNat [V.str (repS "." 11)]).flatten) hp8) z
    have ia := IsE.nl ((NL.refl K39).new (o := .lst (List.replicate (6 : Int).toNat [V.str (repS "." 11)]).flatten) hp8) ia
    have r6 := r6.imp fun _ _ z => z.nl ((NL.refl K39).new (o := .lst (List.replicate (6 : Int).toNat [V.str (repS "." 11)]).flatten) hp8)
    have hwu1 := hwu1.keep (fun b o n e => ((Ext.refl (d := d) K39).new (o := .lst (List.replicate (6 : Int).toNat [V.str (repS "." 11)]).flatten) hp8) b o n e) fun _ _ _ z => z
    have hwu2 := hwu2.keep (fun b o n e => ((Ext.refl (d := d) K39).new (o := .lst (List.replicate (6 : Int).toNat [V.str (repS "." 11)]).flatten) hp8) b o n e) fun _ _ _ z => z
    have hwu3 := hwu3.keep (fun b o n e => ((Ext.refl (d := d) K39).new (o := .lst (List.replicate (6 : Int).toNat [V.str (repS "." 11)]).flatten) hp8) b o n e) fun _ _ _ z => z
    have hwu4 := hwu4.keep (fun b o n e => ((Ext.refl (d := d) K39).new (o := .lst (List.replicate (6 : Int).toNat [V.str (repS "." 11)]).flatten) hp8) b o n e) fun _ _ _ z => z
    have hwu5 := hwu5.keep (fun b o n e => ((Ext.refl (d := d) K39).new (o := .lst (List.replicate (6 : Int).toNat [V.str (repS "." 11)]).flatten) hp8) b o n e) fun _ _ _ z => z
    have hwu6 := hwu6.keep (fun b o n e => ((Ext.refl (d := d) K39).new (o := .lst (List.replicate (6 : Int).toNat [V.str (repS "." 11)]).flatten) hp8) b o n e) fun _ _ _ z => z
    have xk := xk.new (o := .lst (List.replicate (6 : Int).toNat [V.str (repS "." 11)]).flatten) hp8
    have dk := dk.new (o := .lst (List.replicate (6 : Int).toNat [V.str (repS "." 11)]).flatten) hp8
    have x2 := x2.new (o := .lst (List.replicate (6 : Int).toNat [V.str (repS "." 11)]).flatten) hp8
    have fp8 : upd K39 p8 (.lst (List.replicate (6 : Int).toNat [V.str (repS "." 11)]).flatten) p8 = some (.lst (List.replicate (6 : Int).toNat [V.str (repS "." 11)]).flatten) := upd_same
    generalize upd K39 p8 (.lst (List.replicate (6 : Int).toNat [V.str (repS "." 11)]).flatten) = K40 at xk dk fp8 x2 fL fM fu1 fu2 fu3 fu4 fu5 fu6 fcu1 fcu2 fcu3 fcu4 fcu5 fcu6 fD7 es ia r6 hwu1 hwu2 hwu3 hwu4 hwu5 hwu6 ⊢
    have fp8 : K40 p8 = some (.lst ((List.replicate 6 (repS "." 11)).map V.str)) := fp8
    refine ⟨_, _, .lst (SqL.of fD7) (dpz_strs _), .lst (SqL.of fp8) (dpz_strs _), shp_all (by decide +kernel), shp_all (by decide +kernel), _, rfl, ?_⟩
    rw [eqz_strs, decide_eq_true (t_kinds6)]
    refine iteF ?_
    refine nx_go ?_
    refine ⟨.ref d, rfl, 10, 30, rfl, rfl, ⟨by decide, by decide +kernel⟩, lt_line (by show 4 ≤ 1000000; decide), fun l9 hl9 => ?_⟩
    have nl9 : l9 ≠ d := dk.ne hl9
    have fL := (upd_ne (o := .lst [.non, .int 0, .int 5, .int (10 ^ (30 : Int).toNat)]) (ne_of_none fL hl9)).trans fL
    have fM := (upd_ne (o := .lst [.non, .int 0, .int 5, .int (10 ^ (30 : Int).toNat)]) (ne_of_none fM hl9)).trans fM
    have fu1 := (upd_ne (o := .lst [.non, .int 0, .int 5, .int (10 ^ (30 : Int).toNat)]) (ne_of_none fu1 hl9)).trans fu1
    have fu2 := (upd_ne (o := .lst [.non, .int 0, .int 5, .int (10 ^ (30 : Int).toNat)]) (ne_of_none fu2 hl9)).trans fu2
    have fu3 := (upd_ne (o := .lst [.non, .int 0, .int 5, .int (10 ^ (30 : Int).toNat)]) (ne_of_none fu3 hl9)).trans fu3
    have fu4 := (upd_ne (o := .lst [.non, .int 0, .int 5, .int (10 ^ (30 : Int).toNat)]) (ne_of_none fu4 hl9)).trans fu4
    have fu5 := (upd_ne (o := .lst [.non, .int 0, .int 5, .int (10 ^ (30 : Int).toNat)]) (ne_of_none fu5 hl9)).trans fu5
    have fu6 := (upd_ne (o := .lst [.non, .int 0, .int 5, .int (10 ^ (30 : Int).toNat)]) (ne_of_none fu6 hl9)).trans fu6
    have fcu1 := (upd_ne (o := .lst [.non, .int 0, .int 5, .int (10 ^ (30 : Int).toNat)]) (ne_of_none fcu1 hl9)).trans fcu1
    have fcu2 := (upd_ne (o := .lst [.non, .int 0, .int 5, .int (10 ^ (30 : Int).toNat)]) (ne_of_none fcu2 hl9)).trans fcu2
    have fcu3 := (upd_ne (o := .lst [.non, .int 0, .int 5, .int (10 ^ (30 : Int).toNat)]) (ne_of_none fcu3 hl9)).trans fcu3
    have fcu4 := (upd_ne (o := .lst [.non, .int 0, .int 5, .int (10 ^ (30 : Int).toNat)]) (ne_of_none fcu4 hl9)).trans fcu4
    have fcu5 := (upd_ne (o := .lst [.non, .int 0, .int 5, .int (10 ^ (30 : Int).toNat)]) (ne_of_none fcu5 hl9)).trans fcu5
    have fcu6 := (upd_ne (o := .lst [.non, .int 0, .int 5, .int (10 ^ (30 : Int).toNat)]) (ne_of_none fcu6 hl9)).trans fcu6
    have es := es.imp fun _ _ z => IsE.nl ((NL.refl K40).new (o := .lst [.non, .int 0, .int 5, .int (10 ^ (30 : Int).toNat)]) hl9) z
    have ia := IsE.nl ((NL.refl K40).new (o := .lst [.non, .int 0, .int 5, .int (10 ^ (30 : Int).toNat)]) hl9) ia
    have r6 := r6.imp fun _ _ z => z.nl ((NL.refl K40).new (o := .lst [.non, .int 0, .int 5, .int (10 ^ (30 : Int).toNat)]) hl9)
    have hwu1 := hwu1.keep (fun b o n e => ((Ext.refl (d := d) K40).new (o := .lst [.non, .int 0, .int 5, .int (10 ^ (30 : Int).toNat)]) hl9) b o n e) fun _ _ _ z => z
    have hwu2 := hwu2.keep (fun b o n e => ((Ext.refl (d := d) K40).new (o := .lst [.non, .int 0, .int 5, .int (10 ^ (30 : Int).toNat)]) hl9) b o n e) fun _ _ _ z => z
    have hwu3 := hwu3.keep (fun b o n e => ((Ext.refl (d := d) K40).new (o := .lst [.non, .int 0, .int 5, .int (10 ^ (30 : Int).toNat)]) hl9) b o n e) fun _ _ _ z => z
    have hwu4 := hwu4.keep (fun b o n e => ((Ext.refl (d := d) K40).new (o := .lst [.non, .int 0, .int 5, .int (10 ^ (30 : Int).toNat)]) hl9) b o n e) fun _ _ _ z => z
    have hwu5 := hwu5.keep (fun b o n e => ((Ext.refl (d := d) K40).new (o := .lst [.non, .int 0, .int 5, .int (10 ^ (30 : Int).toNat)]) hl9) b o n e) fun _ _ _ z => z
    have hwu6 := hwu6.keep (fun b o n e => ((Ext.refl (d := d) K40).new (o := .lst [.non, .int 0, .int 5, .int (10 ^ (30 : Int).toNat)]) hl9) b o n e) fun _ _ _ z => z
    have xk := xk.new (o := .lst [.non, .int 0, .int 5, .int (10 ^ (30 : Int).toNat)]) hl9
    have dk := dk.new (o := .lst [.non, .int 0, .int 5, .int (10 ^ (30 : Int).toNat)]) hl9
    have x2 := x2.new (o := .lst [.non, .int 0, .int 5, .int (10 ^ (30 : Int).toNat)]) hl9
    have fl9 : upd K40 l9 (.lst [.non, .int 0, .int 5, .int (10 ^ (30 : Int).toNat)]) l9 = some (.lst [.non, .int 0, .int 5, .int (10 ^ (30 : Int).toNat)]) := upd_same
    generalize upd K40 l9 (.lst [.non, .int 0, .int 5, .int (10 ^ (30 : Int).toNat)]) = K41 at xk dk fl9 x2 fL fM fu1 fu2 fu3 fu4 fu5 fu6 fcu1 fcu2 fcu3 fcu4 fcu5 fcu6 es ia r6 hwu1 hwu2 hwu3 hwu4 hwu5 hwu6 ⊢
    refine ⟨d, l9, _, rfl, dk, SqL.of fl9, nl9, (fun z => nomatch z), by show 4 < 1000000; decide, fun v4 H4 hv4 e4 d4 => asg_go2 ?_⟩
    dsimp only [List.set]
    obtain ⟨D4, hD4, gD4⟩ : ∃ D, (∀ (A : Addr → Prop) (H : Hp), Dw A H v4 D) ∧ GoodD D := by
      simp only [List.mem_cons, List.mem_nil_iff, or_false] at hv4
      rcases hv4 with rfl | rfl | rfl | rfl
      · exact ⟨_, fun _ _ => .non, by decide +kernel, by decide +kernel, by decide +kernel⟩
      · exact ⟨_, fun _ _ => .int _, by decide +kernel, by decide +kernel, by decide +kernel⟩
      · exact ⟨_, fun _ _ => .int _, by decide +kernel, by decide +kernel, by decide +kernel⟩
      · exact ⟨_, fun _ _ => .int _, by decide +kernel, by decide +kernel, by decide +kernel⟩
    have fL := e4 _ _ (nL) fL
    have fM := e4 _ _ (nM) fM
    have fu1 := e4 _ _ ((at_nd dk fu1 (fun _ => exo_l))) fu1
    have fu2 := e4 _ _ ((at_nd dk fu2 (fun _ => exo_l))) fu2
    have fu3 := e4 _ _ ((at_nd dk fu3 (fun _ => exo_l))) fu3
    have fu4 := e4 _ _ ((at_nd dk fu4 (fun _ => exo_l))) fu4
    have fu5 := e4 _ _ ((at_nd dk fu5 (fun _ => exo_l))) fu5
    have fu6 := e4 _ _ ((at_nd dk fu6 (fun _ => exo_l))) fu6
    have fcu1 := e4 _ _ ((at_nd dk fcu1 (fun _ => exd_l))) fcu1
    have fcu2 := e4 _ _ ((at_nd dk fcu2 (fun _ => exd_l))) fcu2
    have fcu3 := e4 _ _ ((at_nd dk fcu3 (fun _ => exd_l))) fcu3
    have fcu4 := e4 _ _ ((at_nd dk fcu4 (fun _ => exd_l))) fcu4
    have fcu5 := e4 _ _ ((at_nd dk fcu5 (fun _ => exd_l))) fcu5
    have fcu6 := e4 _ _ ((at_nd dk fcu6 (fun _ => exd_l))) fcu6
    have es := es.imp fun _ _ z => IsE.nl ((NL.refl K41).roll dk e4) z
    have ia := IsE.nl ((NL.refl K41).roll dk e4) ia
    have r6 := r6.imp fun _ _ z => z.nl ((NL.refl K41).roll dk e4)
    have hwu1 := hwu1.keep (fun b o n e => e4 b o n e) fun _ _ _ z => z
    have hwu2 := hwu2.keep (fun b o n e => e4 b o n e) fun _ _ _ z => z
    have hwu3 := hwu3.keep (fun b o n e => e4 b o n e) fun _ _ _ z => z
    have hwu4 := hwu4.keep (fun b o n e => e4 b o n e) fun _ _ _ z => z
    have hwu5 := hwu5.keep (fun b o n e => e4 b o n e) fun _ _ _ z => z
    have hwu6 := hwu6.keep (fun b o n e => e4 b o n e) fun _ _ _ z => z
    have xk := xk.trans e4
    have x2 := x2.trans e4
    have dk := d4
    refine ⟨.ref L, rfl, L, _, 8, .ref a, rfl, rfl, SqL.of fL, atI_nat (j := 8) (by rw [List.getElem?_append_right (by omega), l8]; rfl), .ref a, .ParseError, rfl, ia, fun G11 s11 => ?_⟩
    have fL := s11 _ _ fL
    have fM := s11 _ _ fM
    have fu1 := s11 _ _ fu1
    have fu2 := s11 _ _ fu2
    have fu3 := s11 _ _ fu3
    have fu4 := s11 _ _ fu4
    have fu5 := s11 _ _ fu5
    have fu6 := s11 _ _ fu6
    have fcu1 := s11 _ _ fcu1
    have fcu2 := s11 _ _ fcu2
    have fcu3 := s11 _ _ fcu3
    have fcu4 := s11 _ _ fcu4
    have fcu5 := s11 _ _ fcu5
    have fcu6 := s11 _ _ fcu6
    have es := es.imp fun _ _ z => IsE.nl ((NL.refl H4).same s11) z
    have ia := IsE.nl ((NL.refl H4).same s11) ia
    have r6 := r6.imp fun _ _ z => z.nl ((NL.refl H4).same s11)
    have hwu1 := hwu1.keep (fun b o n e => (Ext.same (d := d) s11) b o n e) fun _ _ _ z => z
    have hwu2 := hwu2.keep (fun b o n e => (Ext.same (d := d) s11) b o n e) fun _ _ _ z => z
    have hwu3 := hwu3.keep (fun b o n e => (Ext.same (d := d) s11) b o n e) fun _ _ _ z => z
    have hwu4 := hwu4.keep (fun b o n e => (Ext.same (d := d) s11) b o n e) fun _ _ _ z => z
    have hwu5 := hwu5.keep (fun b o n e => (Ext.same (d := d) s11) b o n e) fun _ _ _ z => z
    have hwu6 := hwu6.keep (fun b o n e => (Ext.same (d := d) s11) b o n e) fun _ _ _ z => z
    have xk := xk.trans (Ext.same s11)
    have x2 := x2.trans (Ext.same s11)
    have dk := dk.same s11
    refine ⟨".", 12, rfl, rfl, by decide, by decide, by decide, rfl, _, rfl, ?_⟩
    rw [show _law_othersT .ParseError = repS "." 12 by decide +kernel, decide_eq_true rfl]
    refine iteF ?_
    refine ⟨v4, rfl, by show 1 ≤ 1000; decide, fun a2 ha2 => ⟨a2, v4, D4, rfl, upd_same, .inl (hD4 _ _), gD4, fun wa2 ca2 Ga2 kp fa2 fca2 hwa2 => ⟨rfl, ?_⟩⟩⟩
    have na2 : a2 ≠ d := dk.ne ha2
    have sa2 : Same G11 Ga2 := fun b o e => kp b o (ne_of_none e ha2) ((upd_ne (ne_of_none e ha2)).trans e)
    have fL := sa2 _ _ fL
    have fM := sa2 _ _ fM
    have fu1 := sa2 _ _ fu1
    have fu2 := sa2 _ _ fu2
    have fu3 := sa2 _ _ fu3
    have fu4 := sa2 _ _ fu4
    have fu5 := sa2 _ _ fu5
    have fu6 := sa2 _ _ fu6
    have fcu1 := sa2 _ _ fcu1
    have fcu2 := sa2 _ _ fcu2
    have fcu3 := sa2 _ _ fcu3
    have fcu4 := sa2 _ _ fcu4
    have fcu5 := sa2 _ _ fcu5
    have fcu6 := sa2 _ _ fcu6
    have es := es.imp fun _ _ z => IsE.nl ((NL.refl G11).same sa2) z
    have ia := IsE.nl ((NL.refl G11).same sa2) ia
    have r6 := r6.imp fun _ _ z => z.nl ((NL.refl G11).same sa2)
    have hwu1 := hwu1.keep (fun b o n e => (Ext.same (d := d) sa2) b o n e) fun _ _ _ z => z
    have hwu2 := hwu2.keep (fun b o n e => (Ext.same (d := d) sa2) b o n e) fun _ _ _ z => z
    have hwu3 := hwu3.keep (fun b o n e => (Ext.same (d := d) sa2) b o n e) fun _ _ _ z => z
    have hwu4 := hwu4.keep (fun b o n e => (Ext.same (d := d) sa2) b o n e) fun _ _ _ z => z
    have hwu5 := hwu5.keep (fun b o n e => (Ext.same (d := d) sa2) b o n e) fun _ _ _ z => z
    have hwu6 := hwu6.keep (fun b o n e => (Ext.same (d := d) sa2) b o n e) fun _ _ _ z => z
    have xk := xk.trans (Ext.same sa2)
    have x2 := x2.trans (Ext.same sa2)
    have dk := dk.same sa2
    have ia2 : IsE (C .ParseError) Ga2 (.ref a2) := ⟨a2, rfl, .inr ⟨ca2, _, fa2, fca2⟩⟩
    obtain ⟨q1, q2, q3⟩ := id gD4
    refine ⟨a2, ca2, _, wa2, rfl, fa2, fca2, rfl, wa2, D4, rfl, hwa2.dz, q1, by omega, Nat.le_trans q3 (by decide), v4, rfl, v4, D4, rfl, (Dy.dz (A := fun _ => True) (.inl (hD4 _ _))), q1, by omega, Nat.le_trans q3 (by decide), rfl, _, rfl, ?_⟩
    rw [decide_eq_true rfl]
    refine iteF (nx_go ?_)
    clear q1 q2 q3
    refine ⟨.ref M, rfl, M, _, 0, .ref u1, rfl, rfl, SqL.of fM, atI_nat (j := 0) rfl, u1, cu1, _, wu1, rfl, fu1, fcu1, rfl, .ref M, rfl, M, _, 1, .ref u2, rfl, rfl, SqL.of fM, atI_nat (j := 1) rfl, u2, cu2, _, wu2, rfl, fu2, fcu2, rfl, .ref M, rfl, M, _, 2, .ref u3, rfl, rfl, SqL.of fM, atI_nat (j := 2) rfl, u3, cu3, _, wu3, rfl, fu3, fcu3, rfl, .ref M, rfl, M, _, 3, .ref u4, rfl, rfl, SqL.of fM, atI_nat (j := 3) rfl, u4, cu4, _, wu4, rfl, fu4, fcu4, rfl, .ref M, rfl, M, _, 4, .ref u5, rfl, rfl, SqL.of fM, atI_nat (j := 4) rfl, u5, cu5, _, wu5, rfl, fu5, fcu5, rfl, .ref M, rfl, M, _, 5, .ref u6, rfl, rfl, SqL.of fM, atI_nat (j := 5) rfl, u6, cu6, _, wu6, rfl, fu6, fcu6, rfl, lt_line (by show 6 ≤ 1000000; decide), fun p9 hp9 np9s => ?_⟩
    have np9 : p9 ≠ d := dk.ne hp9
    have fL := (upd_ne (o := .lst [wu1, wu2, wu3, wu4, wu5, wu6]) (ne_of_none fL hp9)).trans fL
    have fM := (upd_ne (o := .lst [wu1, wu2, wu3, wu4, wu5, wu6]) (ne_of_none fM hp9)).trans fM
    have fu1 := (upd_ne (o := .lst [wu1, wu2, wu3, wu4, wu5, wu6]) (ne_of_none fu1 hp9)).trans fu1
    have fu2 := (upd_ne (o := .lst [wu1, wu2, wu3, wu4, wu5, wu6]) (ne_of_none fu2 hp9)).trans fu2
    have fu3 := (upd_ne (o := .lst [wu1, wu2, wu3, wu4, wu5, wu6]) (ne_of_none fu3 hp9)).trans fu3
    have fu4 := (upd_ne (o := .lst [wu1, wu2, wu3, wu4, wu5, wu6]) (ne_of_none fu4 hp9)).trans fu4
    have fu5 := (upd_ne (o := .lst [wu1, wu2, wu3, wu4, wu5, wu6]) (ne_of_none fu5 hp9)).trans fu5
    have fu6 := (upd_ne (o := .lst [wu1, wu2, wu3, wu4, wu5, wu6]) (ne_of_none fu6 hp9)).trans fu6
    have fcu1 := (upd_ne (o := .lst [wu1, wu2, wu3, wu4, wu5, wu6]) (ne_of_none fcu1 hp9)).trans fcu1
    have fcu2 := (upd_ne (o := .lst [wu1, wu2, wu3, wu4, wu5, wu6]) (ne_of_none fcu2 hp9)).trans fcu2
    have fcu3 := (upd_ne (o := .lst [wu1, wu2, wu3, wu4, wu5, wu6]) (ne_of_none fcu3 hp9)).trans fcu3
    have fcu4 := (upd_ne (o := .lst [wu1, wu2, wu3, wu4, wu5, wu6]) (ne_of_none fcu4 hp9)).trans fcu4
    have fcu5 := (upd_ne (o := .lst [wu1, wu2, wu3, wu4, wu5, wu6]) (ne_of_none fcu5 hp9)).trans fcu5
    have fcu6 := (upd_ne (o := .lst [wu1, wu2, wu3, wu4, wu5, wu6]) (ne_of_none fcu6 hp9)).trans fcu6
    have es := es.imp fun _ _ z => IsE.nl ((NL.refl Ga2).new (o := .lst [wu1, wu2, wu3, wu4, wu5, wu6]) hp9) z
    have ia := IsE.nl ((NL.refl Ga2).new (o := .lst [wu1, wu2, wu3, wu4, wu5, wu6]) hp9) ia
    have r6 := r6.imp fun _ _ z => z.nl ((NL.refl Ga2).new (o := .lst [wu1, wu2, wu3, wu4, wu5, wu6]) hp9)
    have hwu1 := hwu1.keep (fun b o n e => ((Ext.refl (d := d) Ga2).new (o := .lst [wu1, wu2, wu3, wu4, wu5, wu6]) hp9) b o n e) fun _ _ _ z => z
    have hwu2 := hwu2.keep (fun b o n e => ((Ext.refl (d := d) Ga2).new (o := .lst [wu1, wu2, wu3, wu4, wu5, wu6]) hp9) b o n e) fun _ _ _ z => z
    have hwu3 := hwu3.keep (fun b o n e => ((Ext.refl (d := d) Ga2).new (o := .lst [wu1, wu2, wu3, wu4, wu5, wu6]) hp9) b o n e) fun _ _ _ z => z
    have hwu4 := hwu4.keep (fun b o n e => ((Ext.refl (d := d) Ga2).new (o := .lst [wu1, wu2, wu3, wu4, wu5, wu6]) hp9) b o n e) fun _ _ _ z => z
    have hwu5 := hwu5.keep (fun b o n e => ((Ext.refl (d := d) Ga2).new (o := .lst [wu1, wu2, wu3, wu4, wu5, wu6]) hp9) b o n e) fun _ _ _ z => z
    have hwu6 := hwu6.keep (fun b o n e => ((Ext.refl (d := d) Ga2).new (o := .lst [wu1, wu2, wu3, wu4, wu5, wu6]) hp9) b o n e) fun _ _ _ z => z
    have xk := xk.new (o := .lst [wu1, wu2, wu3, wu4, wu5, wu6]) hp9
    have dk := dk.new (o := .lst [wu1, wu2, wu3, wu4, wu5, wu6]) hp9
    have x2 := x2.new (o := .lst [wu1, wu2, wu3, wu4, wu5, wu6]) hp9
    have fp9 : upd Ga2 p9 (.lst [wu1, wu2, wu3, wu4, wu5, wu6]) p9 = some (.lst [wu1, wu2, wu3, wu4, wu5, wu6]) := upd_same
    generalize upd Ga2 p9 (.lst [wu1, wu2, wu3, wu4, wu5, wu6]) = K42 at xk dk fp9 x2 fL fM fu1 fu2 fu3 fu4 fu5 fu6 fcu1 fcu2 fcu3 fcu4 fcu5 fcu6 es ia r6 hwu1 hwu2 hwu3 hwu4 hwu5 hwu6 ⊢
    refine asg_go2 ?_
    dsimp only [List.set]
    have aw : ∀ y ∈ [wu1, wu2, wu3, wu4, wu5, wu6], Dz K K42 y D := by
      intro y m
      simp only [List.mem_cons, List.mem_nil_iff, or_false] at m
      rcases m with m | m | m | m | m | m <;> rw [m]
      · exact hwu1.dz
      · exact hwu2.dz
      · exact hwu3.dz
      · exact hwu4.dz
      · exact hwu5.dz
      · exact hwu6.dz
    refine ⟨.ref p9, rfl, p9, [wu1, wu2, wu3, wu4, wu5, wu6], D, rfl, np9s, fp9, aw, (six_good gD).1, (six_good gD).2, Nat.le_trans gD6 (by decide), ?_⟩
    refine ⟨v, rfl, lt_line (by show 1 ≤ 1000000; decide), fun y1 hy1 => ?_⟩
    have ny1 : y1 ≠ d := dk.ne hy1
    have fL := (upd_ne (o := .lst [v]) (ne_of_none fL hy1)).trans fL
    have fM := (upd_ne (o := .lst [v]) (ne_of_none fM hy1)).trans fM
    have fu1 := (upd_ne (o := .lst [v]) (ne_of_none fu1 hy1)).trans fu1
    have fu2 := (upd_ne (o := .lst [v]) (ne_of_none fu2 hy1)).trans fu2
    have fu3 := (upd_ne (o := .lst [v]) (ne_of_none fu3 hy1)).trans fu3
    have fu4 := (upd_ne (o := .lst [v]) (ne_of_none fu4 hy1)).trans fu4
    have fu5 := (upd_ne (o := .lst [v]) (ne_of_none fu5 hy1)).trans fu5
    have fu6 := (upd_ne (o := .lst [v]) (ne_of_none fu6 hy1)).trans fu6
    have fcu1 := (upd_ne (o := .lst [v]) (ne_of_none fcu1 hy1)).trans fcu1
    have fcu2 := (upd_ne (o := .lst [v]) (ne_of_none fcu2 hy1)).trans fcu2
    have fcu3 := (upd_ne (o := .lst [v]) (ne_of_none fcu3 hy1)).trans fcu3
    have fcu4 := (upd_ne (o := .lst [v]) (ne_of_none fcu4 hy1)).trans fcu4
    have fcu5 := (upd_ne (o := .lst [v]) (ne_of_none fcu5 hy1)).trans fcu5
    have fcu6 := (upd_ne (o := .lst [v]) (ne_of_none fcu6 hy1)).trans fcu6
    have fp9 := (upd_ne (o := .lst [v]) (ne_of_none fp9 hy1)).trans fp9
    have es := es.imp fun _ _ z => IsE.nl ((NL.refl K42).new (o := .lst [v]) hy1) z
    have ia := IsE.nl ((NL.refl K42).new (o := .lst [v]) hy1) ia
    have r6 := r6.imp fun _ _ z => z.nl ((NL.refl K42).new (o := .lst [v]) hy1)
    have hwu1 := hwu1.keep (fun b o n e => ((Ext.refl (d := d) K42).new (o := .lst [v]) hy1) b o n e) fun _ _ _ z => z
    have hwu2 := hwu2.keep (fun b o n e => ((Ext.refl (d := d) K42).new (o := .lst [v]) hy1) b o n e) fun _ _ _ z => z
    have hwu3 := hwu3.keep (fun b o n e => ((Ext.refl (d := d) K42).new (o := .lst [v]) hy1) b o n e) fun _ _ _ z => z
    have hwu4 := hwu4.keep (fun b o n e => ((Ext.refl (d := d) K42).new (o := .lst [v]) hy1) b o n e) fun _ _ _ z => z
    have hwu5 := hwu5.keep (fun b o n e => ((Ext.refl (d := d) K42).new (o := .lst [v]) hy1) b o n e) fun _ _ _ z => z
    have hwu6 := hwu6.keep (fun b o n e => ((Ext.refl (d := d) K42).new (o := .lst [v]) hy1) b o n e) fun _ _ _ z => z
    have xk := xk.new (o := .lst [v]) hy1
    have dk := dk.new (o := .lst [v]) hy1
    have x2 := x2.new (o := .lst [v]) hy1
    have fy1 : upd K42 y1 (.lst [v]) y1 = some (.lst [v]) := upd_same
    generalize upd K42 y1 (.lst [v]) = K43 at xk dk fy1 x2 fL fM fu1 fu2 fu3 fu4 fu5 fu6 fcu1 fcu2 fcu3 fcu4 fcu5 fcu6 fp9 es ia r6 hwu1 hwu2 hwu3 hwu4 hwu5 hwu6 ⊢
    refine ⟨y1, 6, [v], rfl, rfl, fy1, by decide, by decide, lt_line (by show 1 * 6 ≤ 1000000; decide), fun y2 hy2 ny2s => ?_⟩
    have ny2 : y2 ≠ d := dk.ne hy2
    have fL := (upd_ne (o := .lst (List.replicate (6 : Int).toNat [v]).flatten) (ne_of_none fL hy2)).trans fL
    have fM := (upd_ne (o := .lst (List.replicate (6 : Int).toNat [v]).flatten) (ne_of_none fM hy2)).trans fM
    have fu1 := (upd_ne (o := .lst (List.replicate (6 : Int).toNat [v]).flatten) (ne_of_none fu1 hy2)).trans fu1
    have fu2 := (upd_ne (o := .lst (List.replicate (6 : Int).toNat [v]).flatten) (ne_of_none fu2 hy2)).trans fu2
    have fu3 := (upd_ne (o := .lst (List.replicate (6 : Int).toNat [v]).flatten) (ne_of_none fu3 hy2)).trans fu3
    have fu4 := (upd_ne (o := .lst (List.replicate (6 : Int).toNat [v]).flatten) (ne_of_none fu4 hy2)).trans fu4
    have fu5 := (upd_ne (o := .lst (List.replicate (6 : Int).toNat [v]).flatten) (ne_of_none fu5 hy2)).trans fu5
    have fu6 := (upd_ne (o := .lst (List.replicate (6 : Int).toNat [v]).flatten) (ne_of_none fu6 hy2)).trans fu6
    have fcu1 := (upd_ne (o := .lst (List.replicate (6 : Int).toNat [v]).flatten) (ne_of_none fcu1 hy2)).trans fcu1
    have fcu2 := (upd_ne (o := .lst (List.replicate (6 : Int).toNat [v]).flatten) (ne_of_none fcu2 hy2)).trans fcu2
    have fcu3 := (upd_ne (o := .lst (List.replicate (6 : Int).toNat [v]).flatten) (ne_of_none fcu3 hy2)).trans fcu3
    have fcu4 := (upd_ne (o := .lst (List.replicate (6 : Int).toNat [v]).flatten) (ne_of_none fcu4 hy2)).trans fcu4
    have fcu5 := (upd_ne (o := .lst (List.replicate (6 : Int).toNat [v]).flatten) (ne_of_none fcu5 hy2)).trans fcu5
    have fcu6 := (upd_ne (o := .lst (List.replicate (6 : Int).toNat [v]).flatten) (ne_of_none fcu6 hy2)).trans fcu6
    have fp9 := (upd_ne (o := .lst (List.replicate (6 : Int).toNat [v]).flatten) (ne_of_none fp9 hy2)).trans fp9
    have fy1 := (upd_ne (o := .lst (List.replicate (6 : Int).toNat [v]).flatten) (ne_of_none fy1 hy2)).trans fy1
    have es := es.imp fun _ _ z => IsE.nl ((NL.refl K43).new (o := .lst (List.replicate (6 : Int).toNat [v]).flatten) hy2) z
    have ia := IsE.nl ((NL.refl K43).new (o := .lst (List.replicate (6 : Int).toNat [v]).flatten) hy2) ia
    have r6 := r6.imp fun _ _ z => z.nl ((NL.refl K43).new (o := .lst (List.replicate (6 : Int).toNat [v]).flatten) hy2)
    have hwu1 := hwu1.keep (fun b o n e => ((Ext.refl (d := d) K43).new (o := .lst (List.replicate (6 : Int).toNat [v]).flatten) hy2) b o n e) fun _ _ _ z => z
    have hwu2 := hwu2.keep (fun b o n e => ((Ext.refl (d := d) K43).new (o := .lst (List.replicate (6 : Int).toNat [v]).flatten) hy2) b o n e) fun _ _ _ z => z
    have hwu3 := hwu3.keep (fun b o n e => ((Ext.refl (d := d) K43).new (o := .lst (List.replicate (6 : Int).toNat [v]).flatten) hy2) b o n e) fun _ _ _ z => z
    have hwu4 := hwu4.keep (fun b o n e => ((Ext.refl (d := d) K43).new (o := .lst (List.replicate (6 : Int).toNat [v]).flatten) hy2) b o n e) fun _ _ _ z => z
    have hwu5 := hwu5.keep (fun b o n e => ((Ext.refl (d := d) K43).new (o := .lst (List.replicate (6 : Int).toNat [v]).flatten) hy2) b o n e) fun _ _ _ z => z
    have hwu6 := hwu6.keep (fun b o n e => ((Ext.refl (d := d) K43).new (o := .lst (List.replicate (6 : Int).toNat [v]).flatten) hy2) b o n e) fun _ _ _ z => z
    have xk := xk.new (o := .lst (List.replicate (6 : Int).toNat [v]).flatten) hy2
    have dk := dk.new (o := .lst (List.replicate (6 : Int).toNat [v]).flatten) hy2
    have x2 := x2.new (o := .lst (List.replicate (6 : Int).toNat [v]).flatten) hy2
    have fy2 : upd K43 y2 (.lst (List.replicate (6 : Int).toNat [v]).flatten) y2 = some (.lst (List.replicate (6 : Int).toNat [v]).flatten) := upd_same
    generalize upd K43 y2 (.lst (List.replicate (6 : Int).toNat [v]).flatten) = K44 at xk dk fy2 x2 fL fM fu1 fu2 fu3 fu4 fu5 fu6 fcu1 fcu2 fcu3 fcu4 fcu5 fcu6 fp9 fy1 es ia r6 hwu1 hwu2 hwu3 hwu4 hwu5 hwu6 ⊢
    have fy2 : K44 y2 = some (.lst (List.replicate 6 v)) := fy2
    have hv6 : Dz K K44 v D := (hD.keep (B := fun _ => True) (fun b o nb e => x2 b o nb e) fun _ _ _ _ => trivial).dz
    refine ⟨y2, List.replicate 6 v, D, rfl, ny2s, fy2, fun y m => by rw [(List.mem_replicate.mp m).2]; exact hv6, (six_good gD).1, (six_good gD).2, Nat.le_trans gD6 (by decide), rfl, ?_⟩
    rw [show (List.replicate 6 v).length = [wu1, wu2, wu3, wu4, wu5, wu6].length from rfl, decide_eq_true rfl]
    exact q _ xk dk
end


end My
namespace My
open PySem PySem.Spec PyProof.Rows L2 TL
set_option pp.maxSteps 3000
set_option pp.deepTerms false
/-! ### the law -/
section
variable {P : Program} {w : World} {K : PySem.W.Frag} {mg : Str → Option Value} {base : Heap} {C : ExN → Addr}
theorem ok_law (T : Txt K mg C) (c__law_dice : Cal P w K mg base "_law_dice" 1 ["_law_script", "_law_spot"] (sp__law_dice K)) (c__law_right : Cal P w K mg base "_law_right" 9 ["_law_dice_here"] (sp__law_right K)) (i_ParseError___init__ : MakE P w K mg base (C .ParseError) (ExN.ini .ParseError) 7 ["self", "line"] (sp_exi (C .ParseError) (ExN.ini .ParseError) "line")) (i_TooMany___init__ : MakE P w K mg base (C .TooMany) (ExN.ini .TooMany) 7 ["self", "limit"] (sp_exi (C .TooMany) (ExN.ini .TooMany) "limit")) {f : Addr} {fd : FuncData} (F : Fun K "law" "law" s_law f fd) : FnOkG P w K mg base CX0 10 f fd ["_law_script"] (sp_law K) := by
  have nd := sc_law.nd
  refine F.okG sc_law (fun vs H Q E h => ?_) (fun cdv A outer s H vs Q E hr hG h => ?_)
  · obtain ⟨a, ns, rfl, _⟩ := h
    rfl
  · obtain ⟨a, ns, rfl, hS, hn, q⟩ := h
    refine ⟨_, (pss_cons (ps_for PassesOwn.never rfl (pi_range1 (by rfl) T.b_range (pa_cons (pe_callB (call_max2 rfl) (by rfl) T.b_max (by decide +kernel) (pa_cons pe_int (pa_cons (pe_callB (call_min2 rfl) (by rfl) T.b_min (by decide +kernel) (pa_cons pe_int (pa_cons (pe_callB call_len (by rfl) T.b_len (by decide +kernel) (pa_cons (pv 0) pa_nil)) pa_nil))) pa_nil))) pa_nil)) (pg_name (i := 1) nd rfl (.inl rfl)) (pss_cons (ps_set (i := 2) nd rfl (.inl rfl) (pe_callC c__law_dice (hr.mono (by first | decide | omega)) hG rfl (pa_cons (pv 0) (pa_cons (pv 1) pa_nil))))
      (pss_one (ps_for PassesOwn.never rfl (pi_range1 (by rfl) T.b_range (pa_cons pe_int pa_nil)) (pg_name (i := 3) nd rfl (.inl rfl)) (pss_one (ps_if (pt_not (pt_val (pe_callC c__law_right (hr.mono (by first | decide | omega)) hG rfl (pa_cons (pv 2) pa_nil)))) (pss_one (ps_ret pe_bl)) pss_nil))))))
      (pss_one (ps_ret (pe_cmpR (op_eqD hr.units) (pe_lst (pa_cons (pe_xv (T.e.o .ParseError).xf (T.e.fld .ParseError _ rfl) (pe_makeE i_ParseError___init__ (hr.mono (by first | decide | omega)) hG rfl (T.e.g .ParseError) (pa_cons pe_non pa_nil))) (pa_cons (pe_xv (T.e.o .ParseError).xf (T.e.fld .ParseError _ rfl) (pe_makeE i_ParseError___init__ (hr.mono (by first | decide | omega)) hG rfl (T.e.g .ParseError) (pa_cons pe_int pa_nil))) (pa_cons (pe_xv (T.e.o .TooMany).xf (T.e.fld .TooMany _ rfl) (pe_makeE i_TooMany___init__ (hr.mono (by first | decide | omega)) hG rfl (T.e.g .TooMany) (pa_cons pe_int pa_nil))) pa_nil)))) (pe_lst (pa_cons pe_non (pa_cons pe_int (pa_cons pe_int pa_nil)))) (nomark _))))), ?_⟩
    obtain ⟨j1, j2⟩ := cells_ok hn _ rfl
    refine cut_for (fun σ' H' => (∃ s1 s2 s3, σ' = [some (.ref a), s1, s2, s3]) ∧ Same H H') (fun N hN => ?_) ?_
    · refine ⟨.ref a, rfl, .ref a, _, rfl, .inl ⟨_, hS, rfl⟩, 8, _, rfl, 1, _, rfl, _, rfl, ?_, ?_, ?_⟩
      · rw [List.length_map]
        omega
      · rw [List.length_map]
        omega
      rw [List.length_map]
      refine for_range (lo := 0) (fun i σ H' => (∃ s1 s2 s3, σ = [some (.ref a), s1, s2, s3]) ∧ Same H H') ?_ (fun i σ H1 hi hP => ?_) (fun σ H1 hP => ?_)
      · exact ⟨⟨_, _, _, rfl⟩, Same.refl H⟩
      · obtain ⟨⟨s1, s2, s3, rfl⟩, sm⟩ := hP
        refine ⟨.ref a, rfl, _, rfl, a, ns, _, rfl, sm.seq hS, by omega, by omega, fun d o hd dd => ?_⟩
        have hdH : H d = none := sm.free hd
        refine ⟨4, rfl, by decide, by decide, for_range (lo := 0) (fun j σ H' => (∃ s1 s3, σ = [some (.ref a), s1, some (.ref d), s3]) ∧ Same H H' ∧ IsDice H' d) ?_ (fun j σ H2 hj hP => ?_) (fun σ H2 hP => ?_)⟩
        · exact ⟨⟨_, _, rfl⟩, sm.mut hdH, dd⟩
        · obtain ⟨⟨s1, s3, rfl⟩, sm2, d2⟩ := hP
          refine ⟨.ref d, rfl, d, rfl, d2, fun H3 e3 d3 => ?_⟩
          have m3 := same_ext sm2 hdH e3
          exact ⟨true, rfl, iteF ⟨⟨_, _, rfl⟩, m3, d3⟩⟩
        · obtain ⟨⟨s1, s3, rfl⟩, sm2, d2⟩ := hP
          exact ⟨⟨_, _, _, rfl⟩, sm2⟩
      · obtain ⟨⟨s1, s2, s3, rfl⟩, sm⟩ := hP
        exact hN _ _ ⟨⟨_, _, _, rfl⟩, sm⟩
    rintro σ' G0 ⟨⟨s1, s2, s3, rfl⟩, sm⟩
    refine ⟨by show 1 ≤ 1000; decide, fun a0 ha0 => ⟨a0, .non, .none, rfl, upd_same, .inl (.non), ⟨by decide +kernel, by decide +kernel, by decide +kernel⟩, fun w0 c0 G1 kp fa0 fc0 hw0 => ⟨rfl, ?_⟩⟩⟩
    obtain rfl : w0 = .non := by rcases hw0 with z | ⟨_, _, _, _, _, _, z⟩ <;> cases z <;> rfl
    refine ⟨a0, c0, _, .non, rfl, fa0, fc0, rfl, ?_⟩
    refine ⟨by show 1 ≤ 1000; decide, fun a1 ha1 => ⟨a1, .int 3, .int 3, rfl, upd_same, .inl (.int _), ⟨by decide +kernel, by decide +kernel, by decide +kernel⟩, fun w1 c1 G2 kp fa1 fc1 hw1 => ⟨rfl, ?_⟩⟩⟩
    obtain rfl : w1 = .int 3 := by rcases hw1 with z | ⟨_, _, _, _, _, _, z⟩ <;> cases z <;> rfl
    refine ⟨a1, c1, _, .int 3, rfl, fa1, fc1, rfl, ?_⟩
    refine ⟨by show 1 ≤ 1000; decide, fun a2 ha2 => ⟨a2, .int 40, .int 40, rfl, upd_same, .inl (.int _), ⟨by decide +kernel, by decide +kernel, by decide +kernel⟩, fun w2 c2 G3 kp fa2 fc2 hw2 => ⟨rfl, ?_⟩⟩⟩
    obtain rfl : w2 = .int 40 := by rcases hw2 with z | ⟨_, _, _, _, _, _, z⟩ <;> cases z <;> rfl
    refine ⟨a2, c2, _, .int 40, rfl, fa2, fc2, rfl, ?_⟩
    refine ⟨lt_line (by show 3 ≤ 1000000; decide), fun l1 hl1 => ?_⟩
    have f1 : upd G3 l1 (.lst [.non, .int 3, .int 40]) l1 = some (.lst [.non, .int 3, .int 40]) := upd_same
    generalize upd G3 l1 (.lst [.non, .int 3, .int 40]) = J1 at f1 ⊢
    refine ⟨lt_line (by show 3 ≤ 1000000; decide), fun l2 hl2 => ?_⟩
    have f1 := (upd_ne (o := .lst [.non, .int 3, .int 40]) (ne_of_none f1 hl2)).trans f1
    have f2 : upd J1 l2 (.lst [.non, .int 3, .int 40]) l2 = some (.lst [.non, .int 3, .int 40]) := upd_same
    generalize upd J1 l2 (.lst [.non, .int 3, .int 40]) = J2 at f1 f2 ⊢
    exact ⟨.list [.none, .int 3, .int 40], .list [.none, .int 3, .int 40], .lst (SqL.of f1) (.cons .non (.cons (.int _) (.cons (.int _) .nil))), .lst (SqL.of f2) (.cons .non (.cons (.int _) (.cons (.int _) .nil))), by decide +kernel, by decide +kernel, q _⟩
end


end My
namespace My
open PySem PySem.Spec PyProof.Rows L2 TL
set_option pp.maxSteps 150
set_option pp.deepTerms false
theorem all_mk {l : PySem.W.OpenLaw} {w : World} {K : PySem.W.Frag} {h : Heap} {mg : Str → Option Value} {fa : Addr} (X : K.In h) (G : h.Ns mainGlobals mg) (hfa : mg "law" = some (.ref fa))
     {C_BuildError : Addr} {C_InvalidWord : Addr} {C_InvalidType : Addr} {C_InvalidLibrary : Addr} {C_InvalidProgram : Addr} {C_InvalidQuestion : Addr} {C_InvalidRoom : Addr} {C_InvalidDraft : Addr} {C_InvalidOperation : Addr} {C_ParseError : Addr} {C_UnknownWord : Addr} {C_NoProgram : Addr} {C_NothingToUndo : Addr} {C_TooMany : Addr} {C_Refused : Addr} {C_InvalidNumber : Addr} {f__law_dice : Addr} {od__law_dice an__law_dice : Option Addr} {sl__law_dice : Array (Option Value)} {oc__law_dice kV__law_dice dc__law_dice pm__law_dice cd__law_dice ct__law_dice : Value} {f__law_roll : Addr} {od__law_roll an__law_roll : Option Addr} {sl__law_roll : Array (Option Value)} {oc__law_roll kV__law_roll dc__law_roll pm__law_roll cd__law_roll ct__law_roll : Value} {f__law_pick : Addr} {od__law_pick an__law_pick : Option Addr} {sl__law_pick : Array (Option Value)} {oc__law_pick kV__law_pick dc__law_pick pm__law_pick cd__law_pick ct__law_pick : Value} {f__law_kinds : Addr} {od__law_kinds an__law_kinds : Option Addr} {sl__law_kinds : Array (Option Value)} {oc__law_kinds kV__law_kinds dc__law_kinds pm__law_kinds cd__law_kinds ct__law_kinds : Value} {f__law_others : Addr} {od__law_others an__law_others : Option Addr} {sl__law_others : Array (Option Value)} {oc__law_others kV__law_others dc__law_others pm__law_others cd__law_others ct__law_others : Value} {f__kept : Addr} {od__kept an__kept : Option Addr} {sl__kept : Array (Option Value)} {oc__kept kV__kept dc__kept pm__kept cd__kept ct__kept : Value} {f_ParseError___init__ : Addr} {od_ParseError___init__ an_ParseError___init__ : Option Addr} {sl_ParseError___init__ : Array (Option Value)} {oc_ParseError___init__ kV_ParseError___init__ dc_ParseError___init__ pm_ParseError___init__ cd_ParseError___init__ ct_ParseError___init__ : Value} {f_UnknownWord___init__ : Addr} {od_UnknownWord___init__ an_UnknownWord___init__ : Option Addr} {sl_UnknownWord___init__ : Array (Option Value)} {oc_UnknownWord___init__ kV_UnknownWord___init__ dc_UnknownWord___init__ pm_UnknownWord___init__ cd_UnknownWord___init__ ct_UnknownWord___init__ : Value} {f_NoProgram___init__ : Addr} {od_NoProgram___init__ an_NoProgram___init__ : Option Addr} {sl_NoProgram___init__ : Array (Option Value)} {oc_NoProgram___init__ kV_NoProgram___init__ dc_NoProgram___init__ pm_NoProgram___init__ cd_NoProgram___init__ ct_NoProgram___init__ : Value} {f_NothingToUndo___init__ : Addr} {od_NothingToUndo___init__ an_NothingToUndo___init__ : Option Addr} {sl_NothingToUndo___init__ : Array (Option Value)} {oc_NothingToUndo___init__ kV_NothingToUndo___init__ dc_NothingToUndo___init__ pm_NothingToUndo___init__ cd_NothingToUndo___init__ ct_NothingToUndo___init__ : Value} {f_TooMany___init__ : Addr} {od_TooMany___init__ an_TooMany___init__ : Option Addr} {sl_TooMany___init__ : Array (Option Value)} {oc_TooMany___init__ kV_TooMany___init__ dc_TooMany___init__ pm_TooMany___init__ cd_TooMany___init__ ct_TooMany___init__ : Value} {f_Refused___init__ : Addr} {od_Refused___init__ an_Refused___init__ : Option Addr} {sl_Refused___init__ : Array (Option Value)} {oc_Refused___init__ kV_Refused___init__ dc_Refused___init__ pm_Refused___init__ cd_Refused___init__ ct_Refused___init__ : Value} {f_InvalidNumber___init__ : Addr} {od_InvalidNumber___init__ an_InvalidNumber___init__ : Option Addr} {sl_InvalidNumber___init__ : Array (Option Value)} {oc_InvalidNumber___init__ kV_InvalidNumber___init__ dc_InvalidNumber___init__ pm_InvalidNumber___init__ cd_InvalidNumber___init__ ct_InvalidNumber___init__ : Value} {f__law_right : Addr} {od__law_right an__law_right : Option Addr} {sl__law_right : Array (Option Value)} {oc__law_right kV__law_right dc__law_right pm__law_right cd__law_right ct__law_right : Value} {f_law : Addr} {od_law an_law : Option Addr} {sl_law : Array (Option Value)} {oc_law kV_law dc_law pm_law cd_law ct_law : Value}
    (aC_BuildError : PySem.W.nsIn K mainGlobals "BuildError" = some (some (.ref C_BuildError)))
    (ex_iBuildError : PySem.W.excInitIn K C_BuildError [.type "ValueError", .type "Exception", .type "BaseException", .type "object"] "ValueError.__new__" = true)
    (ex_oBuildError : PySem.W.excOver K C_BuildError [.type "ValueError", .type "Exception", .type "BaseException", .type "object"] = true)
    (hd_BuildError : PySem.W.hasDictIn K C_BuildError = true)
    (sa_BuildError : PySem.W.findIn K (.ref C_BuildError) "__setattr__" = some (some (.builtin "object.__setattr__")))
    (sb_BuildError : PySem.W.subIn K (.ref C_BuildError) (.type "BaseException") = some true)
    (tyt_BuildError : PySem.W.typeIn K (.ref C_BuildError) = some (.type "type"))
    (kc_BuildError : PySem.W.keepIn K (.ref C_BuildError) = true)
    (ga_BuildError : PySem.W.findIn K (.ref C_BuildError) "__getattribute__" = some (some (.builtin "BaseException.__getattribute__")))
    (gg_BuildError : PySem.W.findIn K (.ref C_BuildError) "__getattr__" = some none)
    (cl1_BuildError : PySem.W.findIn K (.ref C_BuildError) "__class__" = some (some (.builtin "object.__class__")))
    (cl4_BuildError : PySem.W.mroIn K C_BuildError (.type "object") = some true)
    (fl_BuildError : PySem.W.findIn K (.ref C_BuildError) "" = some none)
    (ex_pBuildError : PySem.W.excIn K C_BuildError [.type "ValueError", .type "Exception", .type "BaseException", .type "object"] "ValueError.__new__" = true)
    (st_BuildError : PySem.W.findIn K (.ref C_BuildError) "__str__" = some (some (.builtin "BaseException.__str__")))
    (aC_InvalidWord : PySem.W.nsIn K mainGlobals "InvalidWord" = some (some (.ref C_InvalidWord)))
    (ex_iInvalidWord : PySem.W.excInitIn K C_InvalidWord [.type "ValueError", .type "Exception", .type "BaseException", .type "object"] "ValueError.__new__" = true)
    (ex_oInvalidWord : PySem.W.excOver K C_InvalidWord [.type "ValueError", .type "Exception", .type "BaseException", .type "object"] = true)
    (hd_InvalidWord : PySem.W.hasDictIn K C_InvalidWord = true)
    (sa_InvalidWord : PySem.W.findIn K (.ref C_InvalidWord) "__setattr__" = some (some (.builtin "object.__setattr__")))
    (sb_InvalidWord : PySem.W.subIn K (.ref C_InvalidWord) (.type "BaseException") = some true)
    (tyt_InvalidWord : PySem.W.typeIn K (.ref C_InvalidWord) = some (.type "type"))
    (kc_InvalidWord : PySem.W.keepIn K (.ref C_InvalidWord) = true)
    (ga_InvalidWord : PySem.W.findIn K (.ref C_InvalidWord) "__getattribute__" = some (some (.builtin "BaseException.__getattribute__")))
    (gg_InvalidWord : PySem.W.findIn K (.ref C_InvalidWord) "__getattr__" = some none)
    (cl1_InvalidWord : PySem.W.findIn K (.ref C_InvalidWord) "__class__" = some (some (.builtin "object.__class__")))
    (cl4_InvalidWord : PySem.W.mroIn K C_InvalidWord (.type "object") = some true)
    (fl_InvalidWord : PySem.W.findIn K (.ref C_InvalidWord) "" = some none)
    (ex_pInvalidWord : PySem.W.excIn K C_InvalidWord [.type "ValueError", .type "Exception", .type "BaseException", .type "object"] "ValueError.__new__" = true)
    (st_InvalidWord : PySem.W.findIn K (.ref C_InvalidWord) "__str__" = some (some (.builtin "BaseException.__str__")))
    (aC_InvalidType : PySem.W.nsIn K mainGlobals "InvalidType" = some (some (.ref C_InvalidType)))
    (ex_iInvalidType : PySem.W.excInitIn K C_InvalidType [.type "ValueError", .type "Exception", .type "BaseException", .type "object"] "ValueError.__new__" = true)
    (ex_oInvalidType : PySem.W.excOver K C_InvalidType [.type "ValueError", .type "Exception", .type "BaseException", .type "object"] = true)
    (hd_InvalidType : PySem.W.hasDictIn K C_InvalidType = true)
    (sa_InvalidType : PySem.W.findIn K (.ref C_InvalidType) "__setattr__" = some (some (.builtin "object.__setattr__")))
    (sb_InvalidType : PySem.W.subIn K (.ref C_InvalidType) (.type "BaseException") = some true)
    (tyt_InvalidType : PySem.W.typeIn K (.ref C_InvalidType) = some (.type "type"))
    (kc_InvalidType : PySem.W.keepIn K (.ref C_InvalidType) = true)
    (ga_InvalidType : PySem.W.findIn K (.ref C_InvalidType) "__getattribute__" = some (some (.builtin "BaseException.__getattribute__")))
    (gg_InvalidType : PySem.W.findIn K (.ref C_InvalidType) "__getattr__" = some none)
    (cl1_InvalidType : PySem.W.findIn K (.ref C_InvalidType) "__class__" = some (some (.builtin "object.__class__")))
    (cl4_InvalidType : PySem.W.mroIn K C_InvalidType (.type "object") = some true)
    (fl_InvalidType : PySem.W.findIn K (.ref C_InvalidType) "" = some none)
    (ex_pInvalidType : PySem.W.excIn K C_InvalidType [.type "ValueError", .type "Exception", .type "BaseException", .type "object"] "ValueError.__new__" = true)
    (st_InvalidType : PySem.W.findIn K (.ref C_InvalidType) "__str__" = some (some (.builtin "BaseException.__str__")))
    (aC_InvalidLibrary : PySem.W.nsIn K mainGlobals "InvalidLibrary" = some (some (.ref C_InvalidLibrary)))
    (ex_iInvalidLibrary : PySem.W.excInitIn K C_InvalidLibrary [.type "ValueError", .type "Exception", .type "BaseException", .type "object"] "ValueError.__new__" = true)
    (ex_oInvalidLibrary : PySem.W.excOver K C_InvalidLibrary [.type "ValueError", .type "Exception", .type "BaseException", .type "object"] = true)
    (hd_InvalidLibrary : PySem.W.hasDictIn K C_InvalidLibrary = true)
    (sa_InvalidLibrary : PySem.W.findIn K (.ref C_InvalidLibrary) "__setattr__" = some (some (.builtin "object.__setattr__")))
    (sb_InvalidLibrary : PySem.W.subIn K (.ref C_InvalidLibrary) (.type "BaseException") = some true)
    (tyt_InvalidLibrary : PySem.W.typeIn K (.ref C_InvalidLibrary) = some (.type "type"))
    (kc_InvalidLibrary : PySem.W.keepIn K (.ref C_InvalidLibrary) = true)
    (ga_InvalidLibrary : PySem.W.findIn K (.ref C_InvalidLibrary) "__getattribute__" = some (some (.builtin "BaseException.__getattribute__")))
    (gg_InvalidLibrary : PySem.W.findIn K (.ref C_InvalidLibrary) "__getattr__" = some none)
    (cl1_InvalidLibrary : PySem.W.findIn K (.ref C_InvalidLibrary) "__class__" = some (some (.builtin "object.__class__")))
    (cl4_InvalidLibrary : PySem.W.mroIn K C_InvalidLibrary (.type "object") = some true)
    (fl_InvalidLibrary : PySem.W.findIn K (.ref C_InvalidLibrary) "" = some none)
    (ex_pInvalidLibrary : PySem.W.excIn K C_InvalidLibrary [.type "ValueError", .type "Exception", .type "BaseException", .type "object"] "ValueError.__new__" = true)
    (st_InvalidLibrary : PySem.W.findIn K (.ref C_InvalidLibrary) "__str__" = some (some (.builtin "BaseException.__str__")))
    (aC_InvalidProgram : PySem.W.nsIn K mainGlobals "InvalidProgram" = some (some (.ref C_InvalidProgram)))
    (ex_iInvalidProgram : PySem.W.excInitIn K C_InvalidProgram [.type "ValueError", .type "Exception", .type "BaseException", .type "object"] "ValueError.__new__" = true)
    (ex_oInvalidProgram : PySem.W.excOver K C_InvalidProgram [.type "ValueError", .type "Exception", .type "BaseException", .type "object"] = true)
    (hd_InvalidProgram : PySem.W.hasDictIn K C_InvalidProgram = true)
    (sa_InvalidProgram : PySem.W.findIn K (.ref C_InvalidProgram) "__setattr__" = some (some (.builtin "object.__setattr__")))
    (sb_InvalidProgram : PySem.W.subIn K (.ref C_InvalidProgram) (.type "BaseException") = some true)
    (tyt_InvalidProgram : PySem.W.typeIn K (.ref C_InvalidProgram) = some (.type "type"))
    (kc_InvalidProgram : PySem.W.keepIn K (.ref C_InvalidProgram) = true)
    (ga_InvalidProgram : PySem.W.findIn K (.ref C_InvalidProgram) "__getattribute__" = some (some (.builtin "BaseException.__getattribute__")))
    (gg_InvalidProgram : PySem.W.findIn K (.ref C_InvalidProgram) "__getattr__" = some none)
    (cl1_InvalidProgram : PySem.W.findIn K (.ref C_InvalidProgram) "__class__" = some (some (.builtin "object.__class__")))
    (cl4_InvalidProgram : PySem.W.mroIn K C_InvalidProgram (.type "object") = some true)
    (fl_InvalidProgram : PySem.W.findIn K (.ref C_InvalidProgram) "" = some none)
    (ex_pInvalidProgram : PySem.W.excIn K C_InvalidProgram [.type "ValueError", .type "Exception", .type "BaseException", .type "object"] "ValueError.__new__" = true)
    (st_InvalidProgram : PySem.W.findIn K (.ref C_InvalidProgram) "__str__" = some (some (.builtin "BaseException.__str__")))
    (aC_InvalidQuestion : PySem.W.nsIn K mainGlobals "InvalidQuestion" = some (some (.ref C_InvalidQuestion)))
    (ex_iInvalidQuestion : PySem.W.excInitIn K C_InvalidQuestion [.type "ValueError", .type "Exception", .type "BaseException", .type "object"] "ValueError.__new__" = true)
    (ex_oInvalidQuestion : PySem.W.excOver K C_InvalidQuestion [.type "ValueError", .type "Exception", .type "BaseException", .type "object"] = true)
    (hd_InvalidQuestion : PySem.W.hasDictIn K C_InvalidQuestion = true)
    (sa_InvalidQuestion : PySem.W.findIn K (.ref C_InvalidQuestion) "__setattr__" = some (some (.builtin "object.__setattr__")))
    (sb_InvalidQuestion : PySem.W.subIn K (.ref C_InvalidQuestion) (.type "BaseException") = some true)
    (tyt_InvalidQuestion : PySem.W.typeIn K (.ref C_InvalidQuestion) = some (.type "type"))
    (kc_InvalidQuestion : PySem.W.keepIn K (.ref C_InvalidQuestion) = true)
    (ga_InvalidQuestion : PySem.W.findIn K (.ref C_InvalidQuestion) "__getattribute__" = some (some (.builtin "BaseException.__getattribute__")))
    (gg_InvalidQuestion : PySem.W.findIn K (.ref C_InvalidQuestion) "__getattr__" = some none)
    (cl1_InvalidQuestion : PySem.W.findIn K (.ref C_InvalidQuestion) "__class__" = some (some (.builtin "object.__class__")))
    (cl4_InvalidQuestion : PySem.W.mroIn K C_InvalidQuestion (.type "object") = some true)
    (fl_InvalidQuestion : PySem.W.findIn K (.ref C_InvalidQuestion) "" = some none)
    (ex_pInvalidQuestion : PySem.W.excIn K C_InvalidQuestion [.type "ValueError", .type "Exception", .type "BaseException", .type "object"] "ValueError.__new__" = true)
    (st_InvalidQuestion : PySem.W.findIn K (.ref C_InvalidQuestion) "__str__" = some (some (.builtin "BaseException.__str__")))
    (aC_InvalidRoom : PySem.W.nsIn K mainGlobals "InvalidRoom" = some (some (.ref C_InvalidRoom)))
    (ex_iInvalidRoom : PySem.W.excInitIn K C_InvalidRoom [.type "ValueError", .type "Exception", .type "BaseException", .type "object"] "ValueError.__new__" = true)
    (ex_oInvalidRoom : PySem.W.excOver K C_InvalidRoom [.type "ValueError", .type "Exception", .type "BaseException", .type "object"] = true)
    (hd_InvalidRoom : PySem.W.hasDictIn K C_InvalidRoom = true)
    (sa_InvalidRoom : PySem.W.findIn K (.ref C_InvalidRoom) "__setattr__" = some (some (.builtin "object.__setattr__")))
    (sb_InvalidRoom : PySem.W.subIn K (.ref C_InvalidRoom) (.type "BaseException") = some true)
    (tyt_InvalidRoom : PySem.W.typeIn K (.ref C_InvalidRoom) = some (.type "type"))
    (kc_InvalidRoom : PySem.W.keepIn K (.ref C_InvalidRoom) = true)
    (ga_InvalidRoom : PySem.W.findIn K (.ref C_InvalidRoom) "__getattribute__" = some (some (.builtin "BaseException.__getattribute__")))
    (gg_InvalidRoom : PySem.W.findIn K (.ref C_InvalidRoom) "__getattr__" = some none)
    (cl1_InvalidRoom : PySem.W.findIn K (.ref C_InvalidRoom) "__class__" = some (some (.builtin "object.__class__")))
    (cl4_InvalidRoom : PySem.W.mroIn K C_InvalidRoom (.type "object") = some true)
    (fl_InvalidRoom : PySem.W.findIn K (.ref C_InvalidRoom) "" = some none)
    (ex_pInvalidRoom : PySem.W.excIn K C_InvalidRoom [.type "ValueError", .type "Exception", .type "BaseException", .type "object"] "ValueError.__new__" = true)
    (st_InvalidRoom : PySem.W.findIn K (.ref C_InvalidRoom) "__str__" = some (some (.builtin "BaseException.__str__")))
    (aC_InvalidDraft : PySem.W.nsIn K mainGlobals "InvalidDraft" = some (some (.ref C_InvalidDraft)))
    (ex_iInvalidDraft : PySem.W.excInitIn K C_InvalidDraft [.type "ValueError", .type "Exception", .type "BaseException", .type "object"] "ValueError.__new__" = true)
    (ex_oInvalidDraft : PySem.W.excOver K C_InvalidDraft [.type "ValueError", .type "Exception", .type "BaseException", .type "object"] = true)
    (hd_InvalidDraft : PySem.W.hasDictIn K C_InvalidDraft = true)
    (sa_InvalidDraft : PySem.W.findIn K (.ref C_InvalidDraft) "__setattr__" = some (some (.builtin "object.__setattr__")))
    (sb_InvalidDraft : PySem.W.subIn K (.ref C_InvalidDraft) (.type "BaseException") = some true)
    (tyt_InvalidDraft : PySem.W.typeIn K (.ref C_InvalidDraft) = some (.type "type"))
    (kc_InvalidDraft : PySem.W.keepIn K (.ref C_InvalidDraft) = true)
    (ga_InvalidDraft : PySem.W.findIn K (.ref C_InvalidDraft) "__getattribute__" = some (some (.builtin "BaseException.__getattribute__")))
    (gg_InvalidDraft : PySem.W.findIn K (.ref C_InvalidDraft) "__getattr__" = some none)
    (cl1_InvalidDraft : PySem.W.findIn K (.ref C_InvalidDraft) "__class__" = some (some (.builtin "object.__class__")))
    (cl4_InvalidDraft : PySem.W.mroIn K C_InvalidDraft (.type "object") = some true)
    (fl_InvalidDraft : PySem.W.findIn K (.ref C_InvalidDraft) "" = some none)
    (ex_pInvalidDraft : PySem.W.excIn K C_InvalidDraft [.type "ValueError", .type "Exception", .type "BaseException", .type "object"] "ValueError.__new__" = true)
    (st_InvalidDraft : PySem.W.findIn K (.ref C_InvalidDraft) "__str__" = some (some (.builtin "BaseException.__str__")))
    (aC_InvalidOperation : PySem.W.nsIn K mainGlobals "InvalidOperation" = some (some (.ref C_InvalidOperation)))
    (ex_iInvalidOperation : PySem.W.excInitIn K C_InvalidOperation [.type "ValueError", .type "Exception", .type "BaseException", .type "object"] "ValueError.__new__" = true)
    (ex_oInvalidOperation : PySem.W.excOver K C_InvalidOperation [.type "ValueError", .type "Exception", .type "BaseException", .type "object"] = true)
    (hd_InvalidOperation : PySem.W.hasDictIn K C_InvalidOperation = true)
    (sa_InvalidOperation : PySem.W.findIn K (.ref C_InvalidOperation) "__setattr__" = some (some (.builtin "object.__setattr__")))
    (sb_InvalidOperation : PySem.W.subIn K (.ref C_InvalidOperation) (.type "BaseException") = some true)
    (tyt_InvalidOperation : PySem.W.typeIn K (.ref C_InvalidOperation) = some (.type "type"))
    (kc_InvalidOperation : PySem.W.keepIn K (.ref C_InvalidOperation) = true)
    (ga_InvalidOperation : PySem.W.findIn K (.ref C_InvalidOperation) "__getattribute__" = some (some (.builtin "BaseException.__getattribute__")))
    (gg_InvalidOperation : PySem.W.findIn K (.ref C_InvalidOperation) "__getattr__" = some none)
    (cl1_InvalidOperation : PySem.W.findIn K (.ref C_InvalidOperation) "__class__" = some (some (.builtin "object.__class__")))
    (cl4_InvalidOperation : PySem.W.mroIn K C_InvalidOperation (.type "object") = some true)
    (fl_InvalidOperation : PySem.W.findIn K (.ref C_InvalidOperation) "" = some none)
    (ex_pInvalidOperation : PySem.W.excIn K C_InvalidOperation [.type "ValueError", .type "Exception", .type "BaseException", .type "object"] "ValueError.__new__" = true)
    (st_InvalidOperation : PySem.W.findIn K (.ref C_InvalidOperation) "__str__" = some (some (.builtin "BaseException.__str__")))
    (aC_ParseError : PySem.W.nsIn K mainGlobals "ParseError" = some (some (.ref C_ParseError)))
    (ex_iParseError : PySem.W.excInitIn K C_ParseError [.type "ValueError", .type "Exception", .type "BaseException", .type "object"] "ValueError.__new__" = true)
    (ex_oParseError : PySem.W.excOver K C_ParseError [.type "ValueError", .type "Exception", .type "BaseException", .type "object"] = true)
    (hd_ParseError : PySem.W.hasDictIn K C_ParseError = true)
    (sa_ParseError : PySem.W.findIn K (.ref C_ParseError) "__setattr__" = some (some (.builtin "object.__setattr__")))
    (sb_ParseError : PySem.W.subIn K (.ref C_ParseError) (.type "BaseException") = some true)
    (tyt_ParseError : PySem.W.typeIn K (.ref C_ParseError) = some (.type "type"))
    (kc_ParseError : PySem.W.keepIn K (.ref C_ParseError) = true)
    (ga_ParseError : PySem.W.findIn K (.ref C_ParseError) "__getattribute__" = some (some (.builtin "BaseException.__getattribute__")))
    (gg_ParseError : PySem.W.findIn K (.ref C_ParseError) "__getattr__" = some none)
    (cl1_ParseError : PySem.W.findIn K (.ref C_ParseError) "__class__" = some (some (.builtin "object.__class__")))
    (cl4_ParseError : PySem.W.mroIn K C_ParseError (.type "object") = some true)
    (fl_ParseError : PySem.W.findIn K (.ref C_ParseError) "line" = some none)
    (aC_UnknownWord : PySem.W.nsIn K mainGlobals "UnknownWord" = some (some (.ref C_UnknownWord)))
    (ex_iUnknownWord : PySem.W.excInitIn K C_UnknownWord [.type "KeyError", .type "LookupError", .type "Exception", .type "BaseException", .type "object"] "LookupError.__new__" = true)
    (ex_oUnknownWord : PySem.W.excOver K C_UnknownWord [.type "KeyError", .type "LookupError", .type "Exception", .type "BaseException", .type "object"] = true)
    (hd_UnknownWord : PySem.W.hasDictIn K C_UnknownWord = true)
    (sa_UnknownWord : PySem.W.findIn K (.ref C_UnknownWord) "__setattr__" = some (some (.builtin "object.__setattr__")))
    (sb_UnknownWord : PySem.W.subIn K (.ref C_UnknownWord) (.type "BaseException") = some true)
    (tyt_UnknownWord : PySem.W.typeIn K (.ref C_UnknownWord) = some (.type "type"))
    (kc_UnknownWord : PySem.W.keepIn K (.ref C_UnknownWord) = true)
    (ga_UnknownWord : PySem.W.findIn K (.ref C_UnknownWord) "__getattribute__" = some (some (.builtin "BaseException.__getattribute__")))
    (gg_UnknownWord : PySem.W.findIn K (.ref C_UnknownWord) "__getattr__" = some none)
    (cl1_UnknownWord : PySem.W.findIn K (.ref C_UnknownWord) "__class__" = some (some (.builtin "object.__class__")))
    (cl4_UnknownWord : PySem.W.mroIn K C_UnknownWord (.type "object") = some true)
    (fl_UnknownWord : PySem.W.findIn K (.ref C_UnknownWord) "asked" = some none)
    (aC_NoProgram : PySem.W.nsIn K mainGlobals "NoProgram" = some (some (.ref C_NoProgram)))
    (ex_iNoProgram : PySem.W.excInitIn K C_NoProgram [.type "LookupError", .type "Exception", .type "BaseException", .type "object"] "LookupError.__new__" = true)
    (ex_oNoProgram : PySem.W.excOver K C_NoProgram [.type "LookupError", .type "Exception", .type "BaseException", .type "object"] = true)
    (hd_NoProgram : PySem.W.hasDictIn K C_NoProgram = true)
    (sa_NoProgram : PySem.W.findIn K (.ref C_NoProgram) "__setattr__" = some (some (.builtin "object.__setattr__")))
    (sb_NoProgram : PySem.W.subIn K (.ref C_NoProgram) (.type "BaseException") = some true)
    (tyt_NoProgram : PySem.W.typeIn K (.ref C_NoProgram) = some (.type "type"))
    (kc_NoProgram : PySem.W.keepIn K (.ref C_NoProgram) = true)
    (ga_NoProgram : PySem.W.findIn K (.ref C_NoProgram) "__getattribute__" = some (some (.builtin "BaseException.__getattribute__")))
    (gg_NoProgram : PySem.W.findIn K (.ref C_NoProgram) "__getattr__" = some none)
    (cl1_NoProgram : PySem.W.findIn K (.ref C_NoProgram) "__class__" = some (some (.builtin "object.__class__")))
    (cl4_NoProgram : PySem.W.mroIn K C_NoProgram (.type "object") = some true)
    (fl_NoProgram : PySem.W.findIn K (.ref C_NoProgram) "wanted" = some none)
    (aC_NothingToUndo : PySem.W.nsIn K mainGlobals "NothingToUndo" = some (some (.ref C_NothingToUndo)))
    (ex_iNothingToUndo : PySem.W.excInitIn K C_NothingToUndo [.type "IndexError", .type "LookupError", .type "Exception", .type "BaseException", .type "object"] "IndexError.__new__" = true)
    (ex_oNothingToUndo : PySem.W.excOver K C_NothingToUndo [.type "IndexError", .type "LookupError", .type "Exception", .type "BaseException", .type "object"] = true)
    (hd_NothingToUndo : PySem.W.hasDictIn K C_NothingToUndo = true)
    (sa_NothingToUndo : PySem.W.findIn K (.ref C_NothingToUndo) "__setattr__" = some (some (.builtin "object.__setattr__")))
    (sb_NothingToUndo : PySem.W.subIn K (.ref C_NothingToUndo) (.type "BaseException") = some true)
    (tyt_NothingToUndo : PySem.W.typeIn K (.ref C_NothingToUndo) = some (.type "type"))
    (kc_NothingToUndo : PySem.W.keepIn K (.ref C_NothingToUndo) = true)
    (ga_NothingToUndo : PySem.W.findIn K (.ref C_NothingToUndo) "__getattribute__" = some (some (.builtin "BaseException.__getattribute__")))
    (gg_NothingToUndo : PySem.W.findIn K (.ref C_NothingToUndo) "__getattr__" = some none)
    (cl1_NothingToUndo : PySem.W.findIn K (.ref C_NothingToUndo) "__class__" = some (some (.builtin "object.__class__")))
    (cl4_NothingToUndo : PySem.W.mroIn K C_NothingToUndo (.type "object") = some true)
    (fl_NothingToUndo : PySem.W.findIn K (.ref C_NothingToUndo) "amount" = some none)
    (aC_TooMany : PySem.W.nsIn K mainGlobals "TooMany" = some (some (.ref C_TooMany)))
    (ex_iTooMany : PySem.W.excInitIn K C_TooMany [.type "OverflowError", .type "ArithmeticError", .type "Exception", .type "BaseException", .type "object"] "OverflowError.__new__" = true)
    (ex_oTooMany : PySem.W.excOver K C_TooMany [.type "OverflowError", .type "ArithmeticError", .type "Exception", .type "BaseException", .type "object"] = true)
    (hd_TooMany : PySem.W.hasDictIn K C_TooMany = true)
    (sa_TooMany : PySem.W.findIn K (.ref C_TooMany) "__setattr__" = some (some (.builtin "object.__setattr__")))
    (sb_TooMany : PySem.W.subIn K (.ref C_TooMany) (.type "BaseException") = some true)
    (tyt_TooMany : PySem.W.typeIn K (.ref C_TooMany) = some (.type "type"))
    (kc_TooMany : PySem.W.keepIn K (.ref C_TooMany) = true)
    (ga_TooMany : PySem.W.findIn K (.ref C_TooMany) "__getattribute__" = some (some (.builtin "BaseException.__getattribute__")))
    (gg_TooMany : PySem.W.findIn K (.ref C_TooMany) "__getattr__" = some none)
    (cl1_TooMany : PySem.W.findIn K (.ref C_TooMany) "__class__" = some (some (.builtin "object.__class__")))
    (cl4_TooMany : PySem.W.mroIn K C_TooMany (.type "object") = some true)
    (fl_TooMany : PySem.W.findIn K (.ref C_TooMany) "limit" = some none)
    (aC_Refused : PySem.W.nsIn K mainGlobals "Refused" = some (some (.ref C_Refused)))
    (ex_iRefused : PySem.W.excInitIn K C_Refused [.type "ArithmeticError", .type "Exception", .type "BaseException", .type "object"] "ArithmeticError.__new__" = true)
    (ex_oRefused : PySem.W.excOver K C_Refused [.type "ArithmeticError", .type "Exception", .type "BaseException", .type "object"] = true)
    (hd_Refused : PySem.W.hasDictIn K C_Refused = true)
    (sa_Refused : PySem.W.findIn K (.ref C_Refused) "__setattr__" = some (some (.builtin "object.__setattr__")))
    (sb_Refused : PySem.W.subIn K (.ref C_Refused) (.type "BaseException") = some true)
    (tyt_Refused : PySem.W.typeIn K (.ref C_Refused) = some (.type "type"))
    (kc_Refused : PySem.W.keepIn K (.ref C_Refused) = true)
    (ga_Refused : PySem.W.findIn K (.ref C_Refused) "__getattribute__" = some (some (.builtin "BaseException.__getattribute__")))
    (gg_Refused : PySem.W.findIn K (.ref C_Refused) "__getattr__" = some none)
    (cl1_Refused : PySem.W.findIn K (.ref C_Refused) "__class__" = some (some (.builtin "object.__class__")))
    (cl4_Refused : PySem.W.mroIn K C_Refused (.type "object") = some true)
    (fl_Refused : PySem.W.findIn K (.ref C_Refused) "cause" = some none)
    (aC_InvalidNumber : PySem.W.nsIn K mainGlobals "InvalidNumber" = some (some (.ref C_InvalidNumber)))
    (ex_iInvalidNumber : PySem.W.excInitIn K C_InvalidNumber [.type "RuntimeError", .type "Exception", .type "BaseException", .type "object"] "RuntimeError.__new__" = true)
    (ex_oInvalidNumber : PySem.W.excOver K C_InvalidNumber [.type "RuntimeError", .type "Exception", .type "BaseException", .type "object"] = true)
    (hd_InvalidNumber : PySem.W.hasDictIn K C_InvalidNumber = true)
    (sa_InvalidNumber : PySem.W.findIn K (.ref C_InvalidNumber) "__setattr__" = some (some (.builtin "object.__setattr__")))
    (sb_InvalidNumber : PySem.W.subIn K (.ref C_InvalidNumber) (.type "BaseException") = some true)
    (tyt_InvalidNumber : PySem.W.typeIn K (.ref C_InvalidNumber) = some (.type "type"))
    (kc_InvalidNumber : PySem.W.keepIn K (.ref C_InvalidNumber) = true)
    (ga_InvalidNumber : PySem.W.findIn K (.ref C_InvalidNumber) "__getattribute__" = some (some (.builtin "BaseException.__getattribute__")))
    (gg_InvalidNumber : PySem.W.findIn K (.ref C_InvalidNumber) "__getattr__" = some none)
    (cl1_InvalidNumber : PySem.W.findIn K (.ref C_InvalidNumber) "__class__" = some (some (.builtin "object.__class__")))
    (cl4_InvalidNumber : PySem.W.mroIn K C_InvalidNumber (.type "object") = some true)
    (fl_InvalidNumber : PySem.W.findIn K (.ref C_InvalidNumber) "number" = some none)
    (cl2_E : PySem.W.specialIn K (.builtin "object.__class__") "__get__" = some (some (.builtin "getset_descriptor.__get__")))
    (cl3_E : PySem.W.takesIn K (.builtin "object.__class__") = some true)
    (ex_tabX : tabX K (exC C_BuildError C_InvalidWord C_InvalidType C_InvalidLibrary C_InvalidProgram C_InvalidQuestion C_InvalidRoom C_InvalidDraft C_InvalidOperation C_ParseError C_UnknownWord C_NoProgram C_NothingToUndo C_TooMany C_Refused C_InvalidNumber) = true)
    (ex_tabT : tabT K (exC C_BuildError C_InvalidWord C_InvalidType C_InvalidLibrary C_InvalidProgram C_InvalidQuestion C_InvalidRoom C_InvalidDraft C_InvalidOperation C_ParseError C_UnknownWord C_NoProgram C_NothingToUndo C_TooMany C_Refused C_InvalidNumber) = true)
    (rd_B : PySem.W.readsIn K C_BuildError (.type "type") = true)
    (ga_B : PySem.W.specialIn K (.ref C_BuildError) "__getattribute__" = some (some (.builtin "type.__getattribute__")))
    (ex_iniB : PySem.W.findCls K (.ref C_BuildError) (.type "type") "__init__" = some (.val (.builtin "ValueError.__init__")))
    (ex_vKeyError : PySem.W.findCls K (.type "KeyError") (.type "type") "__init__" = some (.val (.builtin "KeyError.__init__")))
    (ex_vIndexError : PySem.W.findCls K (.type "IndexError") (.type "type") "__init__" = some (.val (.builtin "IndexError.__init__")))
    (ex_vLookupError : PySem.W.findCls K (.type "LookupError") (.type "type") "__init__" = some (.val (.builtin "LookupError.__init__")))
    (ex_vOverflowError : PySem.W.findCls K (.type "OverflowError") (.type "type") "__init__" = some (.val (.builtin "OverflowError.__init__")))
    (ex_vArithmeticError : PySem.W.findCls K (.type "ArithmeticError") (.type "type") "__init__" = some (.val (.builtin "ArithmeticError.__init__")))
    (ex_vRuntimeError : PySem.W.findCls K (.type "RuntimeError") (.type "type") "__init__" = some (.val (.builtin "RuntimeError.__init__")))
    (a__law_dice : PySem.W.nsIn K mainGlobals "_law_dice" = some (some (.ref f__law_dice)))
    (l__law_dice : K.lookup f__law_dice = some ⟨oc__law_dice, od__law_dice, .func (PySem.W.fnOf "_law_dice" "_law_dice" (defArgs s__law_dice) (defBody s__law_dice) (defScope s__law_dice) .none kV__law_dice dc__law_dice pm__law_dice an__law_dice cd__law_dice ct__law_dice), sl__law_dice⟩)
    (c__law_dice : PySem.W.codeIn K cd__law_dice "_law_dice" = true)
    (k__law_dice : PySem.W.keepIn K (.ref f__law_dice) = true)
    (a__law_roll : PySem.W.nsIn K mainGlobals "_law_roll" = some (some (.ref f__law_roll)))
    (l__law_roll : K.lookup f__law_roll = some ⟨oc__law_roll, od__law_roll, .func (PySem.W.fnOf "_law_roll" "_law_roll" (defArgs s__law_roll) (defBody s__law_roll) (defScope s__law_roll) .none kV__law_roll dc__law_roll pm__law_roll an__law_roll cd__law_roll ct__law_roll), sl__law_roll⟩)
    (c__law_roll : PySem.W.codeIn K cd__law_roll "_law_roll" = true)
    (k__law_roll : PySem.W.keepIn K (.ref f__law_roll) = true)
    (a__law_pick : PySem.W.nsIn K mainGlobals "_law_pick" = some (some (.ref f__law_pick)))
    (l__law_pick : K.lookup f__law_pick = some ⟨oc__law_pick, od__law_pick, .func (PySem.W.fnOf "_law_pick" "_law_pick" (defArgs s__law_pick) (defBody s__law_pick) (defScope s__law_pick) .none kV__law_pick dc__law_pick pm__law_pick an__law_pick cd__law_pick ct__law_pick), sl__law_pick⟩)
    (c__law_pick : PySem.W.codeIn K cd__law_pick "_law_pick" = true)
    (k__law_pick : PySem.W.keepIn K (.ref f__law_pick) = true)
    (a__law_kinds : PySem.W.nsIn K mainGlobals "_law_kinds" = some (some (.ref f__law_kinds)))
    (l__law_kinds : K.lookup f__law_kinds = some ⟨oc__law_kinds, od__law_kinds, .func (PySem.W.fnOf "_law_kinds" "_law_kinds" (defArgs s__law_kinds) (defBody s__law_kinds) (defScope s__law_kinds) .none kV__law_kinds dc__law_kinds pm__law_kinds an__law_kinds cd__law_kinds ct__law_kinds), sl__law_kinds⟩)
    (c__law_kinds : PySem.W.codeIn K cd__law_kinds "_law_kinds" = true)
    (k__law_kinds : PySem.W.keepIn K (.ref f__law_kinds) = true)
    (a__law_others : PySem.W.nsIn K mainGlobals "_law_others" = some (some (.ref f__law_others)))
    (l__law_others : K.lookup f__law_others = some ⟨oc__law_others, od__law_others, .func (PySem.W.fnOf "_law_others" "_law_others" (defArgs s__law_others) (defBody s__law_others) (defScope s__law_others) .none kV__law_others dc__law_others pm__law_others an__law_others cd__law_others ct__law_others), sl__law_others⟩)
    (c__law_others : PySem.W.codeIn K cd__law_others "_law_others" = true)
    (k__law_others : PySem.W.keepIn K (.ref f__law_others) = true)
    (a__kept : PySem.W.nsIn K mainGlobals "_kept" = some (some (.ref f__kept)))
    (l__kept : K.lookup f__kept = some ⟨oc__kept, od__kept, .func (PySem.W.fnOf "_kept" "_kept" (defArgs s__kept) (defBody s__kept) (defScope s__kept) .none kV__kept dc__kept pm__kept an__kept cd__kept ct__kept), sl__kept⟩)
    (c__kept : PySem.W.codeIn K cd__kept "_kept" = true)
    (k__kept : PySem.W.keepIn K (.ref f__kept) = true)
    (a_ParseError___init__ : PySem.W.findIn K (.ref C_ParseError) "__init__" = some (some (.ref f_ParseError___init__)))
    (i_ParseError___init__ : PySem.W.isFn K (.ref f_ParseError___init__) = true)
    (l_ParseError___init__ : K.lookup f_ParseError___init__ = some ⟨oc_ParseError___init__, od_ParseError___init__, .func (PySem.W.fnOf "__init__" "ParseError.__init__" (defArgs s_ParseError___init__) (defBody s_ParseError___init__) (defScope s_ParseError___init__) .none kV_ParseError___init__ dc_ParseError___init__ pm_ParseError___init__ an_ParseError___init__ cd_ParseError___init__ ct_ParseError___init__), sl_ParseError___init__⟩)
    (c_ParseError___init__ : PySem.W.codeIn K cd_ParseError___init__ "ParseError.__init__" = true)
    (k_ParseError___init__ : PySem.W.keepIn K (.ref f_ParseError___init__) = true)
    (a_UnknownWord___init__ : PySem.W.findIn K (.ref C_UnknownWord) "__init__" = some (some (.ref f_UnknownWord___init__)))
    (i_UnknownWord___init__ : PySem.W.isFn K (.ref f_UnknownWord___init__) = true)
    (l_UnknownWord___init__ : K.lookup f_UnknownWord___init__ = some ⟨oc_UnknownWord___init__, od_UnknownWord___init__, .func (PySem.W.fnOf "__init__" "UnknownWord.__init__" (defArgs s_UnknownWord___init__) (defBody s_UnknownWord___init__) (defScope s_UnknownWord___init__) .none kV_UnknownWord___init__ dc_UnknownWord___init__ pm_UnknownWord___init__ an_UnknownWord___init__ cd_UnknownWord___init__ ct_UnknownWord___init__), sl_UnknownWord___init__⟩)
    (c_UnknownWord___init__ : PySem.W.codeIn K cd_UnknownWord___init__ "UnknownWord.__init__" = true)
    (k_UnknownWord___init__ : PySem.W.keepIn K (.ref f_UnknownWord___init__) = true)
    (a_NoProgram___init__ : PySem.W.findIn K (.ref C_NoProgram) "__init__" = some (some (.ref f_NoProgram___init__)))
    (i_NoProgram___init__ : PySem.W.isFn K (.ref f_NoProgram___init__) = true)
    (l_NoProgram___init__ : K.lookup f_NoProgram___init__ = some ⟨oc_NoProgram___init__, od_NoProgram___init__, .func (PySem.W.fnOf "__init__" "NoProgram.__init__" (defArgs s_NoProgram___init__) (defBody s_NoProgram___init__) (defScope s_NoProgram___init__) .none kV_NoProgram___init__ dc_NoProgram___init__ pm_NoProgram___init__ an_NoProgram___init__ cd_NoProgram___init__ ct_NoProgram___init__), sl_NoProgram___init__⟩)
    (c_NoProgram___init__ : PySem.W.codeIn K cd_NoProgram___init__ "NoProgram.__init__" = true)
    (k_NoProgram___init__ : PySem.W.keepIn K (.ref f_NoProgram___init__) = true)
    (a_NothingToUndo___init__ : PySem.W.findIn K (.ref C_NothingToUndo) "__init__" = some (some (.ref f_NothingToUndo___init__)))
    (i_NothingToUndo___init__ : PySem.W.isFn K (.ref f_NothingToUndo___init__) = true)
    (l_NothingToUndo___init__ : K.lookup f_NothingToUndo___init__ = some ⟨oc_NothingToUndo___init__, od_NothingToUndo___init__, .func (PySem.W.fnOf "__init__" "NothingToUndo.__init__" (defArgs s_NothingToUndo___init__) (defBody s_NothingToUndo___init__) (defScope s_NothingToUndo___init__) .none kV_NothingToUndo___init__ dc_NothingToUndo___init__ pm_NothingToUndo___init__ an_NothingToUndo___init__ cd_NothingToUndo___init__ ct_NothingToUndo___init__), sl_NothingToUndo___init__⟩)
    (c_NothingToUndo___init__ : PySem.W.codeIn K cd_NothingToUndo___init__ "NothingToUndo.__init__" = true)
    (k_NothingToUndo___init__ : PySem.W.keepIn K (.ref f_NothingToUndo___init__) = true)
    (a_TooMany___init__ : PySem.W.findIn K (.ref C_TooMany) "__init__" = some (some (.ref f_TooMany___init__)))
    (i_TooMany___init__ : PySem.W.isFn K (.ref f_TooMany___init__) = true)
    (l_TooMany___init__ : K.lookup f_TooMany___init__ = some ⟨oc_TooMany___init__, od_TooMany___init__, .func (PySem.W.fnOf "__init__" "TooMany.__init__" (defArgs s_TooMany___init__) (defBody s_TooMany___init__) (defScope s_TooMany___init__) .none kV_TooMany___init__ dc_TooMany___init__ pm_TooMany___init__ an_TooMany___init__ cd_TooMany___init__ ct_TooMany___init__), sl_TooMany___init__⟩)
    (c_TooMany___init__ : PySem.W.codeIn K cd_TooMany___init__ "TooMany.__init__" = true)
    (k_TooMany___init__ : PySem.W.keepIn K (.ref f_TooMany___init__) = true)
    (a_Refused___init__ : PySem.W.findIn K (.ref C_Refused) "__init__" = some (some (.ref f_Refused___init__)))
    (i_Refused___init__ : PySem.W.isFn K (.ref f_Refused___init__) = true)
    (l_Refused___init__ : K.lookup f_Refused___init__ = some ⟨oc_Refused___init__, od_Refused___init__, .func (PySem.W.fnOf "__init__" "Refused.__init__" (defArgs s_Refused___init__) (defBody s_Refused___init__) (defScope s_Refused___init__) .none kV_Refused___init__ dc_Refused___init__ pm_Refused___init__ an_Refused___init__ cd_Refused___init__ ct_Refused___init__), sl_Refused___init__⟩)
    (c_Refused___init__ : PySem.W.codeIn K cd_Refused___init__ "Refused.__init__" = true)
    (k_Refused___init__ : PySem.W.keepIn K (.ref f_Refused___init__) = true)
    (a_InvalidNumber___init__ : PySem.W.findIn K (.ref C_InvalidNumber) "__init__" = some (some (.ref f_InvalidNumber___init__)))
    (i_InvalidNumber___init__ : PySem.W.isFn K (.ref f_InvalidNumber___init__) = true)
    (l_InvalidNumber___init__ : K.lookup f_InvalidNumber___init__ = some ⟨oc_InvalidNumber___init__, od_InvalidNumber___init__, .func (PySem.W.fnOf "__init__" "InvalidNumber.__init__" (defArgs s_InvalidNumber___init__) (defBody s_InvalidNumber___init__) (defScope s_InvalidNumber___init__) .none kV_InvalidNumber___init__ dc_InvalidNumber___init__ pm_InvalidNumber___init__ an_InvalidNumber___init__ cd_InvalidNumber___init__ ct_InvalidNumber___init__), sl_InvalidNumber___init__⟩)
    (c_InvalidNumber___init__ : PySem.W.codeIn K cd_InvalidNumber___init__ "InvalidNumber.__init__" = true)
    (k_InvalidNumber___init__ : PySem.W.keepIn K (.ref f_InvalidNumber___init__) = true)
    (a__law_right : PySem.W.nsIn K mainGlobals "_law_right" = some (some (.ref f__law_right)))
    (l__law_right : K.lookup f__law_right = some ⟨oc__law_right, od__law_right, .func (PySem.W.fnOf "_law_right" "_law_right" (defArgs s__law_right) (defBody s__law_right) (defScope s__law_right) .none kV__law_right dc__law_right pm__law_right an__law_right cd__law_right ct__law_right), sl__law_right⟩)
    (c__law_right : PySem.W.codeIn K cd__law_right "_law_right" = true)
    (k__law_right : PySem.W.keepIn K (.ref f__law_right) = true)
    (a_law : PySem.W.nsIn K mainGlobals "law" = some (some (.ref f_law)))
    (l_law : K.lookup f_law = some ⟨oc_law, od_law, .func (PySem.W.fnOf "law" "law" (defArgs s_law) (defBody s_law) (defScope s_law) .none kV_law dc_law pm_law an_law cd_law ct_law), sl_law⟩)
    (c_law : PySem.W.codeIn K cd_law "law" = true)
    (k_law : PySem.W.keepIn K (.ref f_law) = true)
    (z_ArithmeticError : PySem.W.nsIn K mainGlobals "ArithmeticError" = some none)
    (z_IndexError : PySem.W.nsIn K mainGlobals "IndexError" = some none)
    (z_KeyError : PySem.W.nsIn K mainGlobals "KeyError" = some none)
    (z_LookupError : PySem.W.nsIn K mainGlobals "LookupError" = some none)
    (z_OverflowError : PySem.W.nsIn K mainGlobals "OverflowError" = some none)
    (z_RuntimeError : PySem.W.nsIn K mainGlobals "RuntimeError" = some none)
    (z_ValueError : PySem.W.nsIn K mainGlobals "ValueError" = some none)
    (z_abs : PySem.W.nsIn K mainGlobals "abs" = some none)
    (z_dict : PySem.W.nsIn K mainGlobals "dict" = some none)
    (z_int : PySem.W.nsIn K mainGlobals "int" = some none)
    (z_isinstance : PySem.W.nsIn K mainGlobals "isinstance" = some none)
    (z_len : PySem.W.nsIn K mainGlobals "len" = some none)
    (z_list : PySem.W.nsIn K mainGlobals "list" = some none)
    (z_max : PySem.W.nsIn K mainGlobals "max" = some none)
    (z_min : PySem.W.nsIn K mainGlobals "min" = some none)
    (z_range : PySem.W.nsIn K mainGlobals "range" = some none)
    (z_repr : PySem.W.nsIn K mainGlobals "repr" = some none)
    (z_str : PySem.W.nsIn K mainGlobals "str" = some none)
    (z_tuple : PySem.W.nsIn K mainGlobals "tuple" = some none) :
    ∃ fd : FuncData, (∀ (s : Shared) (v : Value), BindsTo s fd ⟨[v], []⟩ [("_law_script", v)]) ∧ ∀ base : Heap, K.In base → base.Ns mainGlobals mg → FnOkG l.prog w K mg base CX0 10 fa fd ["_law_script"] (sp_law K) := by
  have e := hfa.symm.trans (PySem.W.mg_of X G a_law)
  cases e
  have E : Exs K mg (exC C_BuildError C_InvalidWord C_InvalidType C_InvalidLibrary C_InvalidProgram C_InvalidQuestion C_InvalidRoom C_InvalidDraft C_InvalidOperation C_ParseError C_UnknownWord C_NoProgram C_NothingToUndo C_TooMany C_Refused C_InvalidNumber) := exs_mk (fun n => match n with | .BuildError => PySem.W.mg_of X G aC_BuildError | .InvalidWord => PySem.W.mg_of X G aC_InvalidWord | .InvalidType => PySem.W.mg_of X G aC_InvalidType | .InvalidLibrary => PySem.W.mg_of X G aC_InvalidLibrary | .InvalidProgram => PySem.W.mg_of X G aC_InvalidProgram | .InvalidQuestion => PySem.W.mg_of X G aC_InvalidQuestion | .InvalidRoom => PySem.W.mg_of X G aC_InvalidRoom | .InvalidDraft => PySem.W.mg_of X G aC_InvalidDraft | .InvalidOperation => PySem.W.mg_of X G aC_InvalidOperation | .ParseError => PySem.W.mg_of X G aC_ParseError | .UnknownWord => PySem.W.mg_of X G aC_UnknownWord | .NoProgram => PySem.W.mg_of X G aC_NoProgram | .NothingToUndo => PySem.W.mg_of X G aC_NothingToUndo | .TooMany => PySem.W.mg_of X G aC_TooMany | .Refused => PySem.W.mg_of X G aC_Refused | .InvalidNumber => PySem.W.mg_of X G aC_InvalidNumber) (fun n => match n with | .BuildError => ⟨⟨_, _, _, exB_ValueError, ex_iBuildError, ex_oBuildError⟩, hd_BuildError, sa_BuildError, sb_BuildError, tyt_BuildError, kc_BuildError, ga_BuildError, gg_BuildError⟩ | .InvalidWord => ⟨⟨_, _, _, exB_ValueError, ex_iInvalidWord, ex_oInvalidWord⟩, hd_InvalidWord, sa_InvalidWord, sb_InvalidWord, tyt_InvalidWord, kc_InvalidWord, ga_InvalidWord, gg_InvalidWord⟩ | .InvalidType => ⟨⟨_, _, _, exB_ValueError, ex_iInvalidType, ex_oInvalidType⟩, hd_InvalidType, sa_InvalidType, sb_InvalidType, tyt_InvalidType, kc_InvalidType, ga_InvalidType, gg_InvalidType⟩ | .InvalidLibrary => ⟨⟨_, _, _, exB_ValueError, ex_iInvalidLibrary, ex_oInvalidLibrary⟩, hd_InvalidLibrary, sa_InvalidLibrary, sb_InvalidLibrary, tyt_InvalidLibrary, kc_InvalidLibrary, ga_InvalidLibrary, gg_InvalidLibrary⟩ | .InvalidProgram => ⟨⟨_, _, _, exB_ValueError, ex_iInvalidProgram, ex_oInvalidProgram⟩, hd_InvalidProgram, sa_InvalidProgram, sb_InvalidProgram, tyt_InvalidProgram, kc_InvalidProgram, ga_InvalidProgram, gg_InvalidProgram⟩ | .InvalidQuestion => ⟨⟨_, _, _, exB_ValueError, ex_iInvalidQuestion, ex_oInvalidQuestion⟩, hd_InvalidQuestion, sa_InvalidQuestion, sb_InvalidQuestion, tyt_InvalidQuestion, kc_InvalidQuestion, ga_InvalidQuestion, gg_InvalidQuestion⟩ | .InvalidRoom => ⟨⟨_, _, _, exB_ValueError, ex_iInvalidRoom, ex_oInvalidRoom⟩, hd_InvalidRoom, sa_InvalidRoom, sb_InvalidRoom, tyt_InvalidRoom, kc_InvalidRoom, ga_InvalidRoom, gg_InvalidRoom⟩ | .InvalidDraft => ⟨⟨_, _, _, exB_ValueError, ex_iInvalidDraft, ex_oInvalidDraft⟩, hd_InvalidDraft, sa_InvalidDraft, sb_InvalidDraft, tyt_InvalidDraft, kc_InvalidDraft, ga_InvalidDraft, gg_InvalidDraft⟩ | .InvalidOperation => ⟨⟨_, _, _, exB_ValueError, ex_iInvalidOperation, ex_oInvalidOperation⟩, hd_InvalidOperation, sa_InvalidOperation, sb_InvalidOperation, tyt_InvalidOperation, kc_InvalidOperation, ga_InvalidOperation, gg_InvalidOperation⟩ | .ParseError => ⟨⟨_, _, _, exB_ValueError, ex_iParseError, ex_oParseError⟩, hd_ParseError, sa_ParseError, sb_ParseError, tyt_ParseError, kc_ParseError, ga_ParseError, gg_ParseError⟩ | .UnknownWord => ⟨⟨_, _, _, exB_KeyError, ex_iUnknownWord, ex_oUnknownWord⟩, hd_UnknownWord, sa_UnknownWord, sb_UnknownWord, tyt_UnknownWord, kc_UnknownWord, ga_UnknownWord, gg_UnknownWord⟩ | .NoProgram => ⟨⟨_, _, _, exB_LookupError, ex_iNoProgram, ex_oNoProgram⟩, hd_NoProgram, sa_NoProgram, sb_NoProgram, tyt_NoProgram, kc_NoProgram, ga_NoProgram, gg_NoProgram⟩ | .NothingToUndo => ⟨⟨_, _, _, exB_IndexError, ex_iNothingToUndo, ex_oNothingToUndo⟩, hd_NothingToUndo, sa_NothingToUndo, sb_NothingToUndo, tyt_NothingToUndo, kc_NothingToUndo, ga_NothingToUndo, gg_NothingToUndo⟩ | .TooMany => ⟨⟨_, _, _, exB_OverflowError, ex_iTooMany, ex_oTooMany⟩, hd_TooMany, sa_TooMany, sb_TooMany, tyt_TooMany, kc_TooMany, ga_TooMany, gg_TooMany⟩ | .Refused => ⟨⟨_, _, _, exB_ArithmeticError, ex_iRefused, ex_oRefused⟩, hd_Refused, sa_Refused, sb_Refused, tyt_Refused, kc_Refused, ga_Refused, gg_Refused⟩ | .InvalidNumber => ⟨⟨_, _, _, exB_RuntimeError, ex_iInvalidNumber, ex_oInvalidNumber⟩, hd_InvalidNumber, sa_InvalidNumber, sb_InvalidNumber, tyt_InvalidNumber, kc_InvalidNumber, ga_InvalidNumber, gg_InvalidNumber⟩) ex_tabX ex_tabT (fun n => match n with | .BuildError => ⟨ga_BuildError, gg_BuildError, sb_BuildError, hd_BuildError, cl1_BuildError, cl2_E, cl3_E, cl4_BuildError⟩ | .InvalidWord => ⟨ga_InvalidWord, gg_InvalidWord, sb_InvalidWord, hd_InvalidWord, cl1_InvalidWord, cl2_E, cl3_E, cl4_InvalidWord⟩ | .InvalidType => ⟨ga_InvalidType, gg_InvalidType, sb_InvalidType, hd_InvalidType, cl1_InvalidType, cl2_E, cl3_E, cl4_InvalidType⟩ | .InvalidLibrary => ⟨ga_InvalidLibrary, gg_InvalidLibrary, sb_InvalidLibrary, hd_InvalidLibrary, cl1_InvalidLibrary, cl2_E, cl3_E, cl4_InvalidLibrary⟩ | .InvalidProgram => ⟨ga_InvalidProgram, gg_InvalidProgram, sb_InvalidProgram, hd_InvalidProgram, cl1_InvalidProgram, cl2_E, cl3_E, cl4_InvalidProgram⟩ | .InvalidQuestion => ⟨ga_InvalidQuestion, gg_InvalidQuestion, sb_InvalidQuestion, hd_InvalidQuestion, cl1_InvalidQuestion, cl2_E, cl3_E, cl4_InvalidQuestion⟩ | .InvalidRoom => ⟨ga_InvalidRoom, gg_InvalidRoom, sb_InvalidRoom, hd_InvalidRoom, cl1_InvalidRoom, cl2_E, cl3_E, cl4_InvalidRoom⟩ | .InvalidDraft => ⟨ga_InvalidDraft, gg_InvalidDraft, sb_InvalidDraft, hd_InvalidDraft, cl1_InvalidDraft, cl2_E, cl3_E, cl4_InvalidDraft⟩ | .InvalidOperation => ⟨ga_InvalidOperation, gg_InvalidOperation, sb_InvalidOperation, hd_InvalidOperation, cl1_InvalidOperation, cl2_E, cl3_E, cl4_InvalidOperation⟩ | .ParseError => ⟨ga_ParseError, gg_ParseError, sb_ParseError, hd_ParseError, cl1_ParseError, cl2_E, cl3_E, cl4_ParseError⟩ | .UnknownWord => ⟨ga_UnknownWord, gg_UnknownWord, sb_UnknownWord, hd_UnknownWord, cl1_UnknownWord, cl2_E, cl3_E, cl4_UnknownWord⟩ | .NoProgram => ⟨ga_NoProgram, gg_NoProgram, sb_NoProgram, hd_NoProgram, cl1_NoProgram, cl2_E, cl3_E, cl4_NoProgram⟩ | .NothingToUndo => ⟨ga_NothingToUndo, gg_NothingToUndo, sb_NothingToUndo, hd_NothingToUndo, cl1_NothingToUndo, cl2_E, cl3_E, cl4_NothingToUndo⟩ | .TooMany => ⟨ga_TooMany, gg_TooMany, sb_TooMany, hd_TooMany, cl1_TooMany, cl2_E, cl3_E, cl4_TooMany⟩ | .Refused => ⟨ga_Refused, gg_Refused, sb_Refused, hd_Refused, cl1_Refused, cl2_E, cl3_E, cl4_Refused⟩ | .InvalidNumber => ⟨ga_InvalidNumber, gg_InvalidNumber, sb_InvalidNumber, hd_InvalidNumber, cl1_InvalidNumber, cl2_E, cl3_E, cl4_InvalidNumber⟩) (fun n h => match n, h with | .BuildError, _ => ex_pBuildError | .InvalidWord, _ => ex_pInvalidWord | .InvalidType, _ => ex_pInvalidType | .InvalidLibrary, _ => ex_pInvalidLibrary | .InvalidProgram, _ => ex_pInvalidProgram | .InvalidQuestion, _ => ex_pInvalidQuestion | .InvalidRoom, _ => ex_pInvalidRoom | .InvalidDraft, _ => ex_pInvalidDraft | .InvalidOperation, _ => ex_pInvalidOperation) (fun n h => match n, h with | .BuildError, _ => st_BuildError | .InvalidWord, _ => st_InvalidWord | .InvalidType, _ => st_InvalidType | .InvalidLibrary, _ => st_InvalidLibrary | .InvalidProgram, _ => st_InvalidProgram | .InvalidQuestion, _ => st_InvalidQuestion | .InvalidRoom, _ => st_InvalidRoom | .InvalidDraft, _ => st_InvalidDraft | .InvalidOperation, _ => st_InvalidOperation) (fun n => match n with | .BuildError => fl_BuildError | .InvalidWord => fl_InvalidWord | .InvalidType => fl_InvalidType | .InvalidLibrary => fl_InvalidLibrary | .InvalidProgram => fl_InvalidProgram | .InvalidQuestion => fl_InvalidQuestion | .InvalidRoom => fl_InvalidRoom | .InvalidDraft => fl_InvalidDraft | .InvalidOperation => fl_InvalidOperation | .ParseError => fl_ParseError | .UnknownWord => fl_UnknownWord | .NoProgram => fl_NoProgram | .NothingToUndo => fl_NothingToUndo | .TooMany => fl_TooMany | .Refused => fl_Refused | .InvalidNumber => fl_InvalidNumber) ⟨rd_B, ga_B⟩ ex_iniB ex_vKeyError ex_vIndexError ex_vLookupError ex_vOverflowError ex_vArithmeticError ex_vRuntimeError
  have T : Txt K mg (exC C_BuildError C_InvalidWord C_InvalidType C_InvalidLibrary C_InvalidProgram C_InvalidQuestion C_InvalidRoom C_InvalidDraft C_InvalidOperation C_ParseError C_UnknownWord C_NoProgram C_NothingToUndo C_TooMany C_Refused C_InvalidNumber) := ⟨PySem.W.mg_none_of X G z_ArithmeticError, PySem.W.mg_none_of X G z_IndexError, PySem.W.mg_none_of X G z_KeyError, PySem.W.mg_none_of X G z_LookupError, PySem.W.mg_none_of X G z_OverflowError, PySem.W.mg_none_of X G z_RuntimeError, PySem.W.mg_none_of X G z_ValueError, PySem.W.mg_none_of X G z_abs, PySem.W.mg_none_of X G z_dict, PySem.W.mg_none_of X G z_int, PySem.W.mg_none_of X G z_isinstance, PySem.W.mg_none_of X G z_len, PySem.W.mg_none_of X G z_list, PySem.W.mg_none_of X G z_max, PySem.W.mg_none_of X G z_min, PySem.W.mg_none_of X G z_range, PySem.W.mg_none_of X G z_repr, PySem.W.mg_none_of X G z_str, PySem.W.mg_none_of X G z_tuple, E⟩
  refine ⟨PySem.W.fnOf "law" "law" (defArgs s_law) (defBody s_law) (defScope s_law) .none kV_law dc_law pm_law an_law cd_law ct_law, fun s v => .of_eq rfl, fun base _ _ => ?_⟩
  have F__law_dice := fun_mk (st := s__law_dice) l__law_dice c__law_dice k__law_dice
  have B__law_dice := F__law_dice.binds (ps := ["_law_script", "_law_spot"]) fun _ _ _ _ _ _ us hl => match us, hl with | [_, _], _ => rfl
  have D__law_dice : Cal l.prog w K mg base "_law_dice" 1 ["_law_script", "_law_spot"] (sp__law_dice K) := ⟨_, _, ok__law_dice (P := l.prog) (w := w) (base := base) T F__law_dice, PySem.W.mg_of X G a__law_dice, k__law_dice, B__law_dice⟩
  have F__law_roll := fun_mk (st := s__law_roll) l__law_roll c__law_roll k__law_roll
  have B__law_roll := F__law_roll.binds (ps := ["_law_dice_here", "_law_total"]) fun _ _ _ _ _ _ us hl => match us, hl with | [_, _], _ => rfl
  have D__law_roll : Cal l.prog w K mg base "_law_roll" 1 ["_law_dice_here", "_law_total"] (sp__law_roll K) := ⟨_, _, ok__law_roll (P := l.prog) (w := w) (base := base) T F__law_roll, PySem.W.mg_of X G a__law_roll, k__law_roll, B__law_roll⟩
  have F__law_pick := fun_mk (st := s__law_pick) l__law_pick c__law_pick k__law_pick
  have B__law_pick := F__law_pick.binds (ps := ["_law_dice_here", "_law_items"]) fun _ _ _ _ _ _ us hl => match us, hl with | [_, _], _ => rfl
  have D__law_pick : Cal l.prog w K mg base "_law_pick" 2 ["_law_dice_here", "_law_items"] (sp__law_pick K) := ⟨_, _, ok__law_pick (P := l.prog) (w := w) (base := base) T D__law_roll F__law_pick, PySem.W.mg_of X G a__law_pick, k__law_pick, B__law_pick⟩
  have F__law_kinds := fun_mk (st := s__law_kinds) l__law_kinds c__law_kinds k__law_kinds
  have B__law_kinds := F__law_kinds.binds (ps := ["_law_error"]) fun _ _ _ _ _ _ us hl => match us, hl with | [_], _ => rfl
  have D__law_kinds : Cal l.prog w K mg base "_law_kinds" 1 ["_law_error"] (sp__law_kinds (exC C_BuildError C_InvalidWord C_InvalidType C_InvalidLibrary C_InvalidProgram C_InvalidQuestion C_InvalidRoom C_InvalidDraft C_InvalidOperation C_ParseError C_UnknownWord C_NoProgram C_NothingToUndo C_TooMany C_Refused C_InvalidNumber)) := ⟨_, _, ok__law_kinds (P := l.prog) (w := w) (base := base) T F__law_kinds, PySem.W.mg_of X G a__law_kinds, k__law_kinds, B__law_kinds⟩
  have F__law_others := fun_mk (st := s__law_others) l__law_others c__law_others k__law_others
  have B__law_others := F__law_others.binds (ps := ["_law_error"]) fun _ _ _ _ _ _ us hl => match us, hl with | [_], _ => rfl
  have D__law_others : Cal l.prog w K mg base "_law_others" 1 ["_law_error"] (sp__law_others (exC C_BuildError C_InvalidWord C_InvalidType C_InvalidLibrary C_InvalidProgram C_InvalidQuestion C_InvalidRoom C_InvalidDraft C_InvalidOperation C_ParseError C_UnknownWord C_NoProgram C_NothingToUndo C_TooMany C_Refused C_InvalidNumber)) := ⟨_, _, ok__law_others (P := l.prog) (w := w) (base := base) T F__law_others, PySem.W.mg_of X G a__law_others, k__law_others, B__law_others⟩
  have F__kept := fun_mk (st := s__kept) l__kept c__kept k__kept
  have B__kept := F__kept.binds (ps := ["value"]) fun _ _ _ _ _ _ us hl => match us, hl with | [_], _ => rfl
  have D__kept : CalN l.prog w K mg base "_kept" 6 ["value"] (sp__kept K) := ⟨_, _, ok__kept (P := l.prog) (w := w) (base := base) T F__kept (PySem.W.mg_of X G a__kept) B__kept 5, PySem.W.mg_of X G a__kept, k__kept, B__kept⟩
  have F_ParseError___init__ := fun_mk (st := s_ParseError___init__) l_ParseError___init__ c_ParseError___init__ k_ParseError___init__
  have B_ParseError___init__ := F_ParseError___init__.binds (ps := ["self", "line"]) fun _ _ _ _ _ _ us hl => match us, hl with | [_, _], _ => rfl
  have D_ParseError___init__ : MakE l.prog w K mg base ((exC C_BuildError C_InvalidWord C_InvalidType C_InvalidLibrary C_InvalidProgram C_InvalidQuestion C_InvalidRoom C_InvalidDraft C_InvalidOperation C_ParseError C_UnknownWord C_NoProgram C_NothingToUndo C_TooMany C_Refused C_InvalidNumber) .ParseError) (ExN.ini .ParseError) 7 ["self", "line"] (sp_exi ((exC C_BuildError C_InvalidWord C_InvalidType C_InvalidLibrary C_InvalidProgram C_InvalidQuestion C_InvalidRoom C_InvalidDraft C_InvalidOperation C_ParseError C_UnknownWord C_NoProgram C_NothingToUndo C_TooMany C_Refused C_InvalidNumber) .ParseError) (ExN.ini .ParseError) "line") := ⟨⟨_, _, ok_ParseError___init__ (P := l.prog) (w := w) (base := base) T D__kept F_ParseError___init__, a_ParseError___init__, beq_iff_eq.mp i_ParseError___init__, B_ParseError___init__⟩, E.o .ParseError⟩
  have F_UnknownWord___init__ := fun_mk (st := s_UnknownWord___init__) l_UnknownWord___init__ c_UnknownWord___init__ k_UnknownWord___init__
  have B_UnknownWord___init__ := F_UnknownWord___init__.binds (ps := ["self", "asked"]) fun _ _ _ _ _ _ us hl => match us, hl with | [_, _], _ => rfl
  have D_UnknownWord___init__ : MakE l.prog w K mg base ((exC C_BuildError C_InvalidWord C_InvalidType C_InvalidLibrary C_InvalidProgram C_InvalidQuestion C_InvalidRoom C_InvalidDraft C_InvalidOperation C_ParseError C_UnknownWord C_NoProgram C_NothingToUndo C_TooMany C_Refused C_InvalidNumber) .UnknownWord) (ExN.ini .UnknownWord) 7 ["self", "asked"] (sp_exi ((exC C_BuildError C_InvalidWord C_InvalidType C_InvalidLibrary C_InvalidProgram C_InvalidQuestion C_InvalidRoom C_InvalidDraft C_InvalidOperation C_ParseError C_UnknownWord C_NoProgram C_NothingToUndo C_TooMany C_Refused C_InvalidNumber) .UnknownWord) (ExN.ini .UnknownWord) "asked") := ⟨⟨_, _, ok_UnknownWord___init__ (P := l.prog) (w := w) (base := base) T D__kept F_UnknownWord___init__, a_UnknownWord___init__, beq_iff_eq.mp i_UnknownWord___init__, B_UnknownWord___init__⟩, E.o .UnknownWord⟩
  have F_NoProgram___init__ := fun_mk (st := s_NoProgram___init__) l_NoProgram___init__ c_NoProgram___init__ k_NoProgram___init__
  have B_NoProgram___init__ := F_NoProgram___init__.binds (ps := ["self", "wanted"]) fun _ _ _ _ _ _ us hl => match us, hl with | [_, _], _ => rfl
  have D_NoProgram___init__ : MakE l.prog w K mg base ((exC C_BuildError C_InvalidWord C_InvalidType C_InvalidLibrary C_InvalidProgram C_InvalidQuestion C_InvalidRoom C_InvalidDraft C_InvalidOperation C_ParseError C_UnknownWord C_NoProgram C_NothingToUndo C_TooMany C_Refused C_InvalidNumber) .NoProgram) (ExN.ini .NoProgram) 7 ["self", "wanted"] (sp_exi ((exC C_BuildError C_InvalidWord C_InvalidType C_InvalidLibrary C_InvalidProgram C_InvalidQuestion C_InvalidRoom C_InvalidDraft C_InvalidOperation C_ParseError C_UnknownWord C_NoProgram C_NothingToUndo C_TooMany C_Refused C_InvalidNumber) .NoProgram) (ExN.ini .NoProgram) "wanted") := ⟨⟨_, _, ok_NoProgram___init__ (P := l.prog) (w := w) (base := base) T D__kept F_NoProgram___init__, a_NoProgram___init__, beq_iff_eq.mp i_NoProgram___init__, B_NoProgram___init__⟩, E.o .NoProgram⟩
  have F_NothingToUndo___init__ := fun_mk (st := s_NothingToUndo___init__) l_NothingToUndo___init__ c_NothingToUndo___init__ k_NothingToUndo___init__
  have B_NothingToUndo___init__ := F_NothingToUndo___init__.binds (ps := ["self", "amount"]) fun _ _ _ _ _ _ us hl => match us, hl with | [_, _], _ => rfl
  have D_NothingToUndo___init__ : MakE l.prog w K mg base ((exC C_BuildError C_InvalidWord C_InvalidType C_InvalidLibrary C_InvalidProgram C_InvalidQuestion C_InvalidRoom C_InvalidDraft C_InvalidOperation C_ParseError C_UnknownWord C_NoProgram C_NothingToUndo C_TooMany C_Refused C_InvalidNumber) .NothingToUndo) (ExN.ini .NothingToUndo) 7 ["self", "amount"] (sp_exi ((exC C_BuildError C_InvalidWord C_InvalidType C_InvalidLibrary C_InvalidProgram C_InvalidQuestion C_InvalidRoom C_InvalidDraft C_InvalidOperation C_ParseError C_UnknownWord C_NoProgram C_NothingToUndo C_TooMany C_Refused C_InvalidNumber) .NothingToUndo) (ExN.ini .NothingToUndo) "amount") := ⟨⟨_, _, ok_NothingToUndo___init__ (P := l.prog) (w := w) (base := base) T D__kept F_NothingToUndo___init__, a_NothingToUndo___init__, beq_iff_eq.mp i_NothingToUndo___init__, B_NothingToUndo___init__⟩, E.o .NothingToUndo⟩
  have F_TooMany___init__ := fun_mk (st := s_TooMany___init__) l_TooMany___init__ c_TooMany___init__ k_TooMany___init__
  have B_TooMany___init__ := F_TooMany___init__.binds (ps := ["self", "limit"]) fun _ _ _ _ _ _ us hl => match us, hl with | [_, _], _ => rfl
  have D_TooMany___init__ : MakE l.prog w K mg base ((exC C_BuildError C_InvalidWord C_InvalidType C_InvalidLibrary C_InvalidProgram C_InvalidQuestion C_InvalidRoom C_InvalidDraft C_InvalidOperation C_ParseError C_UnknownWord C_NoProgram C_NothingToUndo C_TooMany C_Refused C_InvalidNumber) .TooMany) (ExN.ini .TooMany) 7 ["self", "limit"] (sp_exi ((exC C_BuildError C_InvalidWord C_InvalidType C_InvalidLibrary C_InvalidProgram C_InvalidQuestion C_InvalidRoom C_InvalidDraft C_InvalidOperation C_ParseError C_UnknownWord C_NoProgram C_NothingToUndo C_TooMany C_Refused C_InvalidNumber) .TooMany) (ExN.ini .TooMany) "limit") := ⟨⟨_, _, ok_TooMany___init__ (P := l.prog) (w := w) (base := base) T D__kept F_TooMany___init__, a_TooMany___init__, beq_iff_eq.mp i_TooMany___init__, B_TooMany___init__⟩, E.o .TooMany⟩
  have F_Refused___init__ := fun_mk (st := s_Refused___init__) l_Refused___init__ c_Refused___init__ k_Refused___init__
  have B_Refused___init__ := F_Refused___init__.binds (ps := ["self", "cause"]) fun _ _ _ _ _ _ us hl => match us, hl with | [_, _], _ => rfl
  have D_Refused___init__ : MakE l.prog w K mg base ((exC C_BuildError C_InvalidWord C_InvalidType C_InvalidLibrary C_InvalidProgram C_InvalidQuestion C_InvalidRoom C_InvalidDraft C_InvalidOperation C_ParseError C_UnknownWord C_NoProgram C_NothingToUndo C_TooMany C_Refused C_InvalidNumber) .Refused) (ExN.ini .Refused) 7 ["self", "cause"] (sp_exi ((exC C_BuildError C_InvalidWord C_InvalidType C_InvalidLibrary C_InvalidProgram C_InvalidQuestion C_InvalidRoom C_InvalidDraft C_InvalidOperation C_ParseError C_UnknownWord C_NoProgram C_NothingToUndo C_TooMany C_Refused C_InvalidNumber) .Refused) (ExN.ini .Refused) "cause") := ⟨⟨_, _, ok_Refused___init__ (P := l.prog) (w := w) (base := base) T D__kept F_Refused___init__, a_Refused___init__, beq_iff_eq.mp i_Refused___init__, B_Refused___init__⟩, E.o .Refused⟩
  have F_InvalidNumber___init__ := fun_mk (st := s_InvalidNumber___init__) l_InvalidNumber___init__ c_InvalidNumber___init__ k_InvalidNumber___init__
  have B_InvalidNumber___init__ := F_InvalidNumber___init__.binds (ps := ["self", "number"]) fun _ _ _ _ _ _ us hl => match us, hl with | [_, _], _ => rfl
  have D_InvalidNumber___init__ : MakE l.prog w K mg base ((exC C_BuildError C_InvalidWord C_InvalidType C_InvalidLibrary C_InvalidProgram C_InvalidQuestion C_InvalidRoom C_InvalidDraft C_InvalidOperation C_ParseError C_UnknownWord C_NoProgram C_NothingToUndo C_TooMany C_Refused C_InvalidNumber) .InvalidNumber) (ExN.ini .InvalidNumber) 7 ["self", "number"] (sp_exi ((exC C_BuildError C_InvalidWord C_InvalidType C_InvalidLibrary C_InvalidProgram C_InvalidQuestion C_InvalidRoom C_InvalidDraft C_InvalidOperation C_ParseError C_UnknownWord C_NoProgram C_NothingToUndo C_TooMany C_Refused C_InvalidNumber) .InvalidNumber) (ExN.ini .InvalidNumber) "number") := ⟨⟨_, _, ok_InvalidNumber___init__ (P := l.prog) (w := w) (base := base) T D__kept F_InvalidNumber___init__, a_InvalidNumber___init__, beq_iff_eq.mp i_InvalidNumber___init__, B_InvalidNumber___init__⟩, E.o .InvalidNumber⟩
  have F__law_right := fun_mk (st := s__law_right) l__law_right c__law_right k__law_right
  have B__law_right := F__law_right.binds (ps := ["_law_dice_here"]) fun _ _ _ _ _ _ us hl => match us, hl with | [_], _ => rfl
  have D__law_right : Cal l.prog w K mg base "_law_right" 9 ["_law_dice_here"] (sp__law_right K) := ⟨_, _, ok__law_right (P := l.prog) (w := w) (base := base) T D__law_pick D__law_kinds D__law_others D_ParseError___init__ D_UnknownWord___init__ D_NoProgram___init__ D_NothingToUndo___init__ D_TooMany___init__ D_Refused___init__ D_InvalidNumber___init__ F__law_right, PySem.W.mg_of X G a__law_right, k__law_right, B__law_right⟩
  have F_law := fun_mk (st := s_law) l_law c_law k_law
  exact ok_law (P := l.prog) (w := w) (base := base) T D__law_dice D__law_right D_ParseError___init__ D_TooMany___init__ F_law
end My

open PySem PySem.W PyProof.Rows in
set_option maxRecDepth 100000 in
set_option maxHeartbeats 0 in
theorem PySem.Challenge.cw_fromparts_k00_errors_and_what_they_keep_holds : PySem.Challenge.rw_fromparts_k00_errors_and_what_they_keep.Holds := by
  w_on; o_law; k_head; (case hw => w_witness2)
  k_fill
  refine My.walk_ofG (l := PySem.Challenge.rw_fromparts_k00_errors_and_what_they_keep) (k := 10) (x := "_law_script") (sp := My.sp_law) rfl rfl ⟨rfl, by decide, by decide⟩ (fun w h Y => PySem.W.kIn_of Y) ?F (fun _ _ a ns hl hS => ⟨a, ns, rfl, hS, hl, fun _ => rfl⟩)
  case F =>
    intro w mg fa h KX G hmg
    refine' My.all_mk KX G hmg ?aC_BuildError ?ex_iBuildError ?ex_oBuildError ?hd_BuildError ?sa_BuildError ?sb_BuildError ?tyt_BuildError ?kc_BuildError ?ga_BuildError ?gg_BuildError ?cl1_BuildError ?cl4_BuildError ?fl_BuildError ?ex_pBuildError ?st_BuildError ?aC_InvalidWord ?ex_iInvalidWord ?ex_oInvalidWord ?hd_InvalidWord ?sa_InvalidWord ?sb_InvalidWord ?tyt_InvalidWord ?kc_InvalidWord ?ga_InvalidWord ?gg_InvalidWord ?cl1_InvalidWord ?cl4_InvalidWord ?fl_InvalidWord ?ex_pInvalidWord ?st_InvalidWord ?aC_InvalidType ?ex_iInvalidType ?ex_oInvalidType ?hd_InvalidType ?sa_InvalidType ?sb_InvalidType ?tyt_InvalidType ?kc_InvalidType ?ga_InvalidType ?gg_InvalidType ?cl1_InvalidType ?cl4_InvalidType ?fl_InvalidType ?ex_pInvalidType ?st_InvalidType ?aC_InvalidLibrary ?ex_iInvalidLibrary ?ex_oInvalidLibrary ?hd_InvalidLibrary ?sa_InvalidLibrary ?sb_InvalidLibrary ?tyt_InvalidLibrary ?kc_InvalidLibrary ?ga_InvalidLibrary ?gg_InvalidLibrary ?cl1_InvalidLibrary ?cl4_InvalidLibrary ?fl_InvalidLibrary ?ex_pInvalidLibrary ?st_InvalidLibrary ?aC_InvalidProgram ?ex_iInvalidProgram ?ex_oInvalidProgram ?hd_InvalidProgram ?sa_InvalidProgram ?sb_InvalidProgram ?tyt_InvalidProgram ?kc_InvalidProgram ?ga_InvalidProgram ?gg_InvalidProgram ?cl1_InvalidProgram ?cl4_InvalidProgram ?fl_InvalidProgram ?ex_pInvalidProgram ?st_InvalidProgram ?aC_InvalidQuestion ?ex_iInvalidQuestion ?ex_oInvalidQuestion ?hd_InvalidQuestion ?sa_InvalidQuestion ?sb_InvalidQuestion ?tyt_InvalidQuestion ?kc_InvalidQuestion ?ga_InvalidQuestion ?gg_InvalidQuestion ?cl1_InvalidQuestion ?cl4_InvalidQuestion ?fl_InvalidQuestion ?ex_pInvalidQuestion ?st_InvalidQuestion ?aC_InvalidRoom ?ex_iInvalidRoom ?ex_oInvalidRoom ?hd_InvalidRoom ?sa_InvalidRoom ?sb_InvalidRoom ?tyt_InvalidRoom ?kc_InvalidRoom ?ga_InvalidRoom ?gg_InvalidRoom ?cl1_InvalidRoom ?cl4_InvalidRoom ?fl_InvalidRoom ?ex_pInvalidRoom ?st_InvalidRoom ?aC_InvalidDraft ?ex_iInvalidDraft ?ex_oInvalidDraft ?hd_InvalidDraft ?sa_InvalidDraft ?sb_InvalidDraft ?tyt_InvalidDraft ?kc_InvalidDraft ?ga_InvalidDraft ?gg_InvalidDraft ?cl1_InvalidDraft ?cl4_InvalidDraft ?fl_InvalidDraft ?ex_pInvalidDraft ?st_InvalidDraft ?aC_InvalidOperation ?ex_iInvalidOperation ?ex_oInvalidOperation ?hd_InvalidOperation ?sa_InvalidOperation ?sb_InvalidOperation ?tyt_InvalidOperation ?kc_InvalidOperation ?ga_InvalidOperation ?gg_InvalidOperation ?cl1_InvalidOperation ?cl4_InvalidOperation ?fl_InvalidOperation ?ex_pInvalidOperation ?st_InvalidOperation ?aC_ParseError ?ex_iParseError ?ex_oParseError ?hd_ParseError ?sa_ParseError ?sb_ParseError ?tyt_ParseError ?kc_ParseError ?ga_ParseError ?gg_ParseError ?cl1_ParseError ?cl4_ParseError ?fl_ParseError ?aC_UnknownWord ?ex_iUnknownWord ?ex_oUnknownWord ?hd_UnknownWord ?sa_UnknownWord ?sb_UnknownWord ?tyt_UnknownWord ?kc_UnknownWord ?ga_UnknownWord ?gg_UnknownWord ?cl1_UnknownWord ?cl4_UnknownWord ?fl_UnknownWord ?aC_NoProgram ?ex_iNoProgram ?ex_oNoProgram ?hd_NoProgram ?sa_NoProgram ?sb_NoProgram ?tyt_NoProgram ?kc_NoProgram ?ga_NoProgram ?gg_NoProgram ?cl1_NoProgram ?cl4_NoProgram ?fl_NoProgram ?aC_NothingToUndo ?ex_iNothingToUndo ?ex_oNothingToUndo ?hd_NothingToUndo ?sa_NothingToUndo ?sb_NothingToUndo ?tyt_NothingToUndo ?kc_NothingToUndo ?ga_NothingToUndo ?gg_NothingToUndo ?cl1_NothingToUndo ?cl4_NothingToUndo ?fl_NothingToUndo ?aC_TooMany ?ex_iTooMany ?ex_oTooMany ?hd_TooMany ?sa_TooMany ?sb_TooMany ?tyt_TooMany ?kc_TooMany ?ga_TooMany ?gg_TooMany ?cl1_TooMany ?cl4_TooMany ?fl_TooMany ?aC_Refused ?ex_iRefused ?ex_oRefused ?hd_Refused ?sa_Refused ?sb_Refused ?tyt_Refused ?kc_Refused ?ga_Refused ?gg_Refused ?cl1_Refused ?cl4_Refused ?fl_Refused ?aC_InvalidNumber ?ex_iInvalidNumber ?ex_oInvalidNumber ?hd_InvalidNumber ?sa_InvalidNumber ?sb_InvalidNumber ?tyt_InvalidNumber ?kc_InvalidNumber ?ga_InvalidNumber ?gg_InvalidNumber ?cl1_InvalidNumber ?cl4_InvalidNumber ?fl_InvalidNumber ?cl2_E ?cl3_E ?ex_tabX ?ex_tabT ?rd_B ?ga_B ?ex_iniB ?ex_vKeyError ?ex_vIndexError ?ex_vLookupError ?ex_vOverflowError ?ex_vArithmeticError ?ex_vRuntimeError ?a__law_dice ?l__law_dice ?c__law_dice ?k__law_dice ?a__law_roll ?l__law_roll ?c__law_roll ?k__law_roll ?a__law_pick ?l__law_pick ?c__law_pick ?k__law_pick ?a__law_kinds ?l__law_kinds ?c__law_kinds ?k__law_kinds ?a__law_others ?l__law_others ?c__law_others ?k__law_others ?a__kept ?l__kept ?c__kept ?k__kept ?a_ParseError___init__ ?i_ParseError___init__ ?l_ParseError___init__ ?c_ParseError___init__ ?k_ParseError___init__ ?a_UnknownWord___init__ ?i_UnknownWord___init__ ?l_UnknownWord___init__ ?c_UnknownWord___init__ ?k_UnknownWord___init__ ?a_NoProgram___init__ ?i_NoProgram___init__ ?l_NoProgram___init__ ?c_NoProgram___init__ ?k_NoProgram___init__ ?a_NothingToUndo___init__ ?i_NothingToUndo___init__ ?l_NothingToUndo___init__ ?c_NothingToUndo___init__ ?k_NothingToUndo___init__ ?a_TooMany___init__ ?i_TooMany___init__ ?l_TooMany___init__ ?c_TooMany___init__ ?k_TooMany___init__ ?a_Refused___init__ ?i_Refused___init__ ?l_Refused___init__ ?c_Refused___init__ ?k_Refused___init__ ?a_InvalidNumber___init__ ?i_InvalidNumber___init__ ?l_InvalidNumber___init__ ?c_InvalidNumber___init__ ?k_InvalidNumber___init__ ?a__law_right ?l__law_right ?c__law_right ?k__law_right ?a_law ?l_law ?c_law ?k_law ?z_ArithmeticError ?z_IndexError ?z_KeyError ?z_LookupError ?z_OverflowError ?z_RuntimeError ?z_ValueError ?z_abs ?z_dict ?z_int ?z_isinstance ?z_len ?z_list ?z_max ?z_min ?z_range ?z_repr ?z_str ?z_tuple
    (case aC_BuildError => k_is)
    (case ex_iBuildError => kernel_rfl)
    (case ex_oBuildError => kernel_rfl)
    (case hd_BuildError => k_is)
    (case sa_BuildError => k_is)
    (case sb_BuildError => k_is)
    (case tyt_BuildError => k_is)
    (case kc_BuildError => k_is)
    (case ga_BuildError => k_is)
    (case gg_BuildError => k_is)
    (case cl1_BuildError => k_is)
    (case cl4_BuildError => k_is)
    (case fl_BuildError => k_is)
    (case ex_pBuildError => kernel_rfl)
    (case st_BuildError => k_is)
    (case aC_InvalidWord => k_is)
    (case ex_iInvalidWord => kernel_rfl)
    (case ex_oInvalidWord => kernel_rfl)
    (case hd_InvalidWord => k_is)
    (case sa_InvalidWord => k_is)
    (case sb_InvalidWord => k_is)
    (case tyt_InvalidWord => k_is)
    (case kc_InvalidWord => k_is)
    (case ga_InvalidWord => k_is)
    (case gg_InvalidWord => k_is)
    (case cl1_InvalidWord => k_is)
    (case cl4_InvalidWord => k_is)
    (case fl_InvalidWord => k_is)
    (case ex_pInvalidWord => kernel_rfl)
    (case st_InvalidWord => k_is)
    (case aC_InvalidType => k_is)
    (case ex_iInvalidType => kernel_rfl)
    (case ex_oInvalidType => kernel_rfl)
    (case hd_InvalidType => k_is)
    (case sa_InvalidType => k_is)
    (case sb_InvalidType => k_is)
    (case tyt_InvalidType => k_is)
    (case kc_InvalidType => k_is)
    (case ga_InvalidType => k_is)
    (case gg_InvalidType => k_is)
    (case cl1_InvalidType => k_is)
    (case cl4_InvalidType => k_is)
    (case fl_InvalidType => k_is)
    (case ex_pInvalidType => kernel_rfl)
    (case st_InvalidType => k_is)
    (case aC_InvalidLibrary => k_is)
    (case ex_iInvalidLibrary => kernel_rfl)
    (case ex_oInvalidLibrary => kernel_rfl)
    (case hd_InvalidLibrary => k_is)
    (case sa_InvalidLibrary => k_is)
    (case sb_InvalidLibrary => k_is)
    (case tyt_InvalidLibrary => k_is)
    (case kc_InvalidLibrary => k_is)
    (case ga_InvalidLibrary => k_is)
    (case gg_InvalidLibrary => k_is)
    (case cl1_InvalidLibrary => k_is)
    (case cl4_InvalidLibrary => k_is)
    (case fl_InvalidLibrary => k_is)
    (case ex_pInvalidLibrary => kernel_rfl)
    (case st_InvalidLibrary => k_is)
    (case aC_InvalidProgram => k_is)
    (case ex_iInvalidProgram => kernel_rfl)
    (case ex_oInvalidProgram => kernel_rfl)
    (case hd_InvalidProgram => k_is)
    (case sa_InvalidProgram => k_is)
    (case sb_InvalidProgram => k_is)
    (case tyt_InvalidProgram => k_is)
    (case kc_InvalidProgram => k_is)
    (case ga_InvalidProgram => k_is)
    (case gg_InvalidProgram => k_is)
    (case cl1_InvalidProgram => k_is)
    (case cl4_InvalidProgram => k_is)
    (case fl_InvalidProgram => k_is)
    (case ex_pInvalidProgram => kernel_rfl)
    (case st_InvalidProgram => k_is)
    (case aC_InvalidQuestion => k_is)
    (case ex_iInvalidQuestion => kernel_rfl)
    (case ex_oInvalidQuestion => kernel_rfl)
    (case hd_InvalidQuestion => k_is)
    (case sa_InvalidQuestion => k_is)
    (case sb_InvalidQuestion => k_is)
    (case tyt_InvalidQuestion => k_is)
    (case kc_InvalidQuestion => k_is)
    (case ga_InvalidQuestion => k_is)
    (case gg_InvalidQuestion => k_is)
    (case cl1_InvalidQuestion => k_is)
    (case cl4_InvalidQuestion => k_is)
    (case fl_InvalidQuestion => k_is)
    (case ex_pInvalidQuestion => kernel_rfl)
    (case st_InvalidQuestion => k_is)
    (case aC_InvalidRoom => k_is)
    (case ex_iInvalidRoom => kernel_rfl)
    (case ex_oInvalidRoom => kernel_rfl)
    (case hd_InvalidRoom => k_is)
    (case sa_InvalidRoom => k_is)
    (case sb_InvalidRoom => k_is)
    (case tyt_InvalidRoom => k_is)
    (case kc_InvalidRoom => k_is)
    (case ga_InvalidRoom => k_is)
    (case gg_InvalidRoom => k_is)
    (case cl1_InvalidRoom => k_is)
    (case cl4_InvalidRoom => k_is)
    (case fl_InvalidRoom => k_is)
    (case ex_pInvalidRoom => kernel_rfl)
    (case st_InvalidRoom => k_is)
    (case aC_InvalidDraft => k_is)
    (case ex_iInvalidDraft => kernel_rfl)
    (case ex_oInvalidDraft => kernel_rfl)
    (case hd_InvalidDraft => k_is)
    (case sa_InvalidDraft => k_is)
    (case sb_InvalidDraft => k_is)
    (case tyt_InvalidDraft => k_is)
    (case kc_InvalidDraft => k_is)
    (case ga_InvalidDraft => k_is)
    (case gg_InvalidDraft => k_is)
    (case cl1_InvalidDraft => k_is)
    (case cl4_InvalidDraft => k_is)
    (case fl_InvalidDraft => k_is)
    (case ex_pInvalidDraft => kernel_rfl)
    (case st_InvalidDraft => k_is)
    (case aC_InvalidOperation => k_is)
    (case ex_iInvalidOperation => kernel_rfl)
    (case ex_oInvalidOperation => kernel_rfl)
    (case hd_InvalidOperation => k_is)
    (case sa_InvalidOperation => k_is)
    (case sb_InvalidOperation => k_is)
    (case tyt_InvalidOperation => k_is)
    (case kc_InvalidOperation => k_is)
    (case ga_InvalidOperation => k_is)
    (case gg_InvalidOperation => k_is)
    (case cl1_InvalidOperation => k_is)
    (case cl4_InvalidOperation => k_is)
    (case fl_InvalidOperation => k_is)
    (case ex_pInvalidOperation => kernel_rfl)
    (case st_InvalidOperation => k_is)
    (case aC_ParseError => k_is)
    (case ex_iParseError => kernel_rfl)
    (case ex_oParseError => kernel_rfl)
    (case hd_ParseError => k_is)
    (case sa_ParseError => k_is)
    (case sb_ParseError => k_is)
    (case tyt_ParseError => k_is)
    (case kc_ParseError => k_is)
    (case ga_ParseError => k_is)
    (case gg_ParseError => k_is)
    (case cl1_ParseError => k_is)
    (case cl4_ParseError => k_is)
    (case fl_ParseError => k_is)
    (case aC_UnknownWord => k_is)
    (case ex_iUnknownWord => kernel_rfl)
    (case ex_oUnknownWord => kernel_rfl)
    (case hd_UnknownWord => k_is)
    (case sa_UnknownWord => k_is)
    (case sb_UnknownWord => k_is)
    (case tyt_UnknownWord => k_is)
    (case kc_UnknownWord => k_is)
    (case ga_UnknownWord => k_is)
    (case gg_UnknownWord => k_is)
    (case cl1_UnknownWord => k_is)
    (case cl4_UnknownWord => k_is)
    (case fl_UnknownWord => k_is)
    (case aC_NoProgram => k_is)
    (case ex_iNoProgram => kernel_rfl)
    (case ex_oNoProgram => kernel_rfl)
    (case hd_NoProgram => k_is)
    (case sa_NoProgram => k_is)
    (case sb_NoProgram => k_is)
    (case tyt_NoProgram => k_is)
    (case kc_NoProgram => k_is)
    (case ga_NoProgram => k_is)
    (case gg_NoProgram => k_is)
    (case cl1_NoProgram => k_is)
    (case cl4_NoProgram => k_is)
    (case fl_NoProgram => k_is)
    (case aC_NothingToUndo => k_is)
    (case ex_iNothingToUndo => kernel_rfl)
    (case ex_oNothingToUndo => kernel_rfl)
    (case hd_NothingToUndo => k_is)
    (case sa_NothingToUndo => k_is)
    (case sb_NothingToUndo => k_is)
    (case tyt_NothingToUndo => k_is)
    (case kc_NothingToUndo => k_is)
    (case ga_NothingToUndo => k_is)
    (case gg_NothingToUndo => k_is)
    (case cl1_NothingToUndo => k_is)
    (case cl4_NothingToUndo => k_is)
    (case fl_NothingToUndo => k_is)
    (case aC_TooMany => k_is)
    (case ex_iTooMany => kernel_rfl)
    (case ex_oTooMany => kernel_rfl)
    (case hd_TooMany => k_is)
    (case sa_TooMany => k_is)
    (case sb_TooMany => k_is)
    (case tyt_TooMany => k_is)
    (case kc_TooMany => k_is)
    (case ga_TooMany => k_is)
    (case gg_TooMany => k_is)
    (case cl1_TooMany => k_is)
    (case cl4_TooMany => k_is)
    (case fl_TooMany => k_is)
    (case aC_Refused => k_is)
    (case ex_iRefused => kernel_rfl)
    (case ex_oRefused => kernel_rfl)
    (case hd_Refused => k_is)
    (case sa_Refused => k_is)
    (case sb_Refused => k_is)
    (case tyt_Refused => k_is)
    (case kc_Refused => k_is)
    (case ga_Refused => k_is)
    (case gg_Refused => k_is)
    (case cl1_Refused => k_is)
    (case cl4_Refused => k_is)
    (case fl_Refused => k_is)
    (case aC_InvalidNumber => k_is)
    (case ex_iInvalidNumber => kernel_rfl)
    (case ex_oInvalidNumber => kernel_rfl)
    (case hd_InvalidNumber => k_is)
    (case sa_InvalidNumber => k_is)
    (case sb_InvalidNumber => k_is)
    (case tyt_InvalidNumber => k_is)
    (case kc_InvalidNumber => k_is)
    (case ga_InvalidNumber => k_is)
    (case gg_InvalidNumber => k_is)
    (case cl1_InvalidNumber => k_is)
    (case cl4_InvalidNumber => k_is)
    (case fl_InvalidNumber => k_is)
    (case cl2_E => k_is)
    (case cl3_E => k_is)
    (case ex_tabX => kernel_rfl)
    (case ex_tabT => kernel_rfl)
    (case rd_B => k_is)
    (case ga_B => k_is)
    (case ex_iniB => kernel_rfl)
    (case ex_vKeyError => kernel_rfl)
    (case ex_vIndexError => kernel_rfl)
    (case ex_vLookupError => kernel_rfl)
    (case ex_vOverflowError => kernel_rfl)
    (case ex_vArithmeticError => kernel_rfl)
    (case ex_vRuntimeError => kernel_rfl)
    (case a__law_dice => k_is)
    (case l__law_dice => k_is)
    (case c__law_dice => k_is)
    (case k__law_dice => k_is)
    (case a__law_roll => k_is)
    (case l__law_roll => k_is)
    (case c__law_roll => k_is)
    (case k__law_roll => k_is)
    (case a__law_pick => k_is)
    (case l__law_pick => k_is)
    (case c__law_pick => k_is)
    (case k__law_pick => k_is)
    (case a__law_kinds => k_is)
    (case l__law_kinds => k_is)
    (case c__law_kinds => k_is)
    (case k__law_kinds => k_is)
    (case a__law_others => k_is)
    (case l__law_others => k_is)
    (case c__law_others => k_is)
    (case k__law_others => k_is)
    (case a__kept => k_is)
    (case l__kept => k_is)
    (case c__kept => k_is)
    (case k__kept => k_is)
    (case a_ParseError___init__ => k_is)
    (case i_ParseError___init__ => k_is)
    (case l_ParseError___init__ => k_is)
    (case c_ParseError___init__ => k_is)
    (case k_ParseError___init__ => k_is)
    (case a_UnknownWord___init__ => k_is)
    (case i_UnknownWord___init__ => k_is)
    (case l_UnknownWord___init__ => k_is)
    (case c_UnknownWord___init__ => k_is)
    (case k_UnknownWord___init__ => k_is)
    (case a_NoProgram___init__ => k_is)
    (case i_NoProgram___init__ => k_is)
    (case l_NoProgram___init__ => k_is)
    (case c_NoProgram___init__ => k_is)
    (case k_NoProgram___init__ => k_is)
    (case a_NothingToUndo___init__ => k_is)
    (case i_NothingToUndo___init__ => k_is)
    (case l_NothingToUndo___init__ => k_is)
    (case c_NothingToUndo___init__ => k_is)
    (case k_NothingToUndo___init__ => k_is)
    (case a_TooMany___init__ => k_is)
    (case i_TooMany___init__ => k_is)
    (case l_TooMany___init__ => k_is)
    (case c_TooMany___init__ => k_is)
    (case k_TooMany___init__ => k_is)
    (case a_Refused___init__ => k_is)
    (case i_Refused___init__ => k_is)
    (case l_Refused___init__ => k_is)
    (case c_Refused___init__ => k_is)
    (case k_Refused___init__ => k_is)
    (case a_InvalidNumber___init__ => k_is)
    (case i_InvalidNumber___init__ => k_is)
    (case l_InvalidNumber___init__ => k_is)
    (case c_InvalidNumber___init__ => k_is)
    (case k_InvalidNumber___init__ => k_is)
    (case a__law_right => k_is)
    (case l__law_right => k_is)
    (case c__law_right => k_is)
    (case k__law_right => k_is)
    (case a_law => k_is)
    (case l_law => k_is)
    (case c_law => k_is)
    (case k_law => k_is)
    (case z_ArithmeticError => k_is)
    (case z_IndexError => k_is)
    (case z_KeyError => k_is)
    (case z_LookupError => k_is)
    (case z_OverflowError => k_is)
    (case z_RuntimeError => k_is)
    (case z_ValueError => k_is)
    (case z_abs => k_is)
    (case z_dict => k_is)
    (case z_int => k_is)
    (case z_isinstance => k_is)
    (case z_len => k_is)
    (case z_list => k_is)
    (case z_max => k_is)
    (case z_min => k_is)
    (case z_range => k_is)
    (case z_repr => k_is)
    (case z_str => k_is)
    (case z_tuple => k_is)
